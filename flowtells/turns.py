"""Some ties of a web turned about two places."""

from flowtells.checks import first_twice, is_within
from flowtells.errors import BadNumber, Misfit, NoPlace, NoTie, Twice
from flowtells.webs import Web, need_web


def turned(web, one, other, ties):
    """The web with these ties turned about the places one and other."""
    need_web(web, "web")
    need_place(web, one)
    need_place(web, other)
    if one == other:
        raise Twice(other)
    need_ties(web, ties)
    if third_places(web, one, other, ties):
        raise Misfit("part")
    goes = {one: other, other: one}
    pairs = list(web.ties)
    for tie in ties:
        first, second = web.ties[tie]
        pairs[tie] = (goes.get(first, first), goes.get(second, second))
    return Web(web.places, pairs)


def need_place(web, value):
    """Refuse what is no place of the web."""
    if not is_within(value, 0, web.places - 1):
        raise NoPlace(value)


def need_ties(web, ties):
    """Refuse what is no list of unlike ties of the web."""
    if not isinstance(ties, (list, tuple)):
        raise BadNumber("ties")
    for tie in ties:
        if not is_within(tie, 0, len(web.ties) - 1):
            raise NoTie(tie)
    again = first_twice(ties)
    if again is not None:
        raise Twice(again)


def third_places(web, one, other, ties):
    """The places beside these two that are touched both by one of these ties and by one of the others."""
    inner = [end for tie in ties for end in web.ties[tie]]
    outer = [end for tie, pair in enumerate(web.ties) if tie not in ties for end in pair]
    return [end for end in inner if end in outer and end not in (one, other)]
