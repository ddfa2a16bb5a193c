"""Flows of a web: what they share, their basis and table, and each as a sum of flows once round."""

from flowtells.checks import are_integers, is_within
from flowtells.errors import BadNumber, Misfit, TooMany
from flowtells.papers import Paper
from flowtells.tables import MOST_ROWS, Table
from flowtells.trees import first_tree
from flowtells.webs import need_web, rounds


def share(one, other):
    """What two lists of as many integers share."""
    if not are_integers(one):
        raise BadNumber("one")
    if not are_integers(other):
        raise BadNumber("other")
    if len(one) != len(other):
        raise Misfit("length")
    return sum([number * by for number, by in zip(one, other)])


def is_flow(web, numbers):
    """Whether a value is a list of integers that is a flow of the web."""
    need_web(web, "web")
    return are_integers(numbers) and len(numbers) == len(web.ties) and not any(gains(web, numbers))


def gains(web, numbers):
    """For each place how much more comes in than goes out."""
    more = [0] * web.places
    for (one, other), number in zip(web.ties, numbers):
        more[one] -= number
        more[other] += number
    return more


def flow_basis(web):
    """The flows of the flow basis."""
    need_web(web, "web")
    tree = first_tree(web)
    return tuple([flow_beside(web, tree, tie) for tie in range(len(web.ties)) if tie not in tree])


def flow_beside(web, tree, tie):
    """The flow with 1 at this tie and 0 at all other ties beside the tree."""
    goal, start = web.ties[tie]
    numbers = [0] * len(web.ties)
    numbers[tie] = 1
    for step, along in way_in_tree(web, tree, start, goal):
        numbers[step] = along
    return tuple(numbers)


def way_in_tree(web, tree, start, goal):
    """The ties of a tree from start to goal, each with 1 if one goes along it to its second end, else -1."""
    place, steps, ways = start, (), []
    while place != goal:
        ways.extend(longer_ways(web, tree, place, steps))
        place, steps = ways.pop()
    return steps


def longer_ways(web, tree, place, steps):
    """The ways with one step more than one that has come to a place, each with where it leads."""
    gone = [tie for tie, _ in steps]
    found = []
    for tie in tree:
        one, other = web.ties[tie]
        if place == one and tie not in gone:
            found.append((other, steps + ((tie, 1),)))
        if place == other and tie not in gone:
            found.append((one, steps + ((tie, -1),)))
    return found


def flow_table(web):
    """The table of what any two flows of the flow basis share."""
    return Table(all_shared(few_flows(web)))


def few_flows(web):
    """The flow basis of a web, if it has at least one flow and no more than a table can have rows."""
    basis = flow_basis(web)
    if not basis:
        raise Misfit("flows")
    if len(basis) > MOST_ROWS:
        raise TooMany("rows", MOST_ROWS)
    return basis


def all_shared(basis):
    """What any two lists of a basis share, row by row."""
    return [[share(one, other) for other in basis] for one in basis]


class InRounds(Paper):
    """A flow as a sum of flows once round one round each, so many times."""

    def __init__(self, pairs):
        super().__init__("inrounds", pairs)
        self.pairs = self.parts[0]


def in_rounds(web, flow):
    """The InRounds of a flow."""
    need_flow(web, flow)
    left, pairs = list(flow), []
    while any(left):
        circle = circle_along(web, left)
        times = min([abs(number) for number, along in zip(left, circle) if along != 0])
        pairs.append((circle, times))
        left = [number - times * along for number, along in zip(left, circle)]
    return InRounds(pairs)


def need_flow(web, flow):
    """Refuse what is no web, or no flow of it."""
    if not is_flow(web, flow):
        raise BadNumber("flow")


def circle_along(web, numbers):
    """A flow once round one round that goes the way of a flow, which is not 0 everywhere."""
    outward = ways_out(web, numbers)
    place = min(list(outward))
    been, gone = [], []
    while place not in been:
        been.append(place)
        tie, place = outward[place]
        gone.append(tie)
    circle = gone[been.index(place):]
    return tuple([way_of(number) if tie in circle else 0 for tie, number in enumerate(numbers)])


def ways_out(web, numbers):
    """For each place out of which something goes, a tie along which it goes, and where this leads."""
    outward = {}
    for tie, number in enumerate(numbers):
        one, other = web.ties[tie]
        if number > 0:
            outward[one] = (tie, other)
        if number < 0:
            outward[other] = (tie, one)
    return outward


def way_of(number):
    """1 for a number above 0, -1 for one below 0, else 0."""
    if number > 0:
        return 1
    return -1 if number < 0 else 0


def shows_in_rounds(web, flow, value):
    """Whether a value is an InRounds of pairs that make up the flow as in_rounds tells."""
    need_flow(web, flow)
    if type(value) is not InRounds or not are_pairs(value.pairs) or len(value.pairs) > len(web.ties):
        return False
    if not are_circles(web, flow, [circle for circle, _ in value.pairs]):
        return False
    totals = [0] * len(flow)
    for circle, times in value.pairs:
        totals = [total + times * along for total, along in zip(totals, circle)]
    return totals == list(flow)


def are_pairs(value):
    """Whether what a paper keeps is a list of pairs of a list of integers and an integer from 1 on."""
    # A paper keeps each list as a tuple.
    return isinstance(value, tuple) and all([is_counted(pair) for pair in value])


def is_counted(value):
    """Whether what a paper keeps is a pair of a list of integers and an integer from 1 on."""
    if not isinstance(value, tuple) or len(value) != 2:
        return False
    return are_integers(value[0]) and is_within(value[1], 1, None)


def are_circles(web, flow, circles):
    """Whether these are unlike flows once round one round each that go the flow's way."""
    known = rounds(web)
    if len(set(circles)) < len(circles):
        return False
    return all([is_flow(web, circle) and goes_round(known, flow, circle) for circle in circles])


def goes_round(known, flow, circle):
    """Whether a flow has the flow's way at each tie of one of the known rounds, and 0 at all others."""
    ties = tuple([tie for tie, along in enumerate(circle) if along != 0])
    return ties in known and all([circle[tie] == way_of(flow[tie]) for tie in ties])
