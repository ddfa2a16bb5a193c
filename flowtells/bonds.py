"""Relations of a lot: how its rows add up to noughts."""

from flowtells.bases import by_first_basis, many_bits, odd_bits, small_sum
from flowtells.contraries import told_way
from flowtells.lots import need_lot


def relations(lot):
    """All least relations whose first integer that is not 0 is 1, ascending."""
    need_lot(lot, "lot")
    fresh = relations_by_basis(lot.rows)
    found = []
    # Any n + 1 rows are dependent, so no least relation uses more. It uses a row where it is odd.
    for used in least_uses([odd_bits(relation) for relation in fresh.values()], lot.size + 1):
        first, *rest = [relation for number, relation in fresh.items() if used >> number & 1]
        found.append(told_way(small_sum(first, rest)))
    return tuple(sorted(found))


def relations_by_basis(rows):
    """For the number of each row that is not one of the first independent ones, how these make it up: a relation."""
    numbers, worth, told = by_first_basis(rows)
    found = {}
    for number, times in enumerate(told):
        if number not in numbers:
            relation = [0] * len(rows)
            relation[number] = -1
            for at, many in zip(numbers, times):
                relation[at] = worth * many
            found[number] = relation
    return found


def least_uses(uses, most):
    """The rows that least relations use, as bits, if relations that are a basis use these; so many rows at most."""
    # Where determinants are 0, 1 and -1 alone, rows are dependent exactly if they are by odd and even: some of them
    # are even together. Which rows are so is told by which of the basis are taken oddly often.
    every = [0]
    for use in uses:
        every = every + [some ^ use for some in every]
    found = []
    for many, used in sorted([(many_bits(used), used) for used in every[1:]]):
        # What is even together, but not least, falls apart, and its least part is half of it at most.
        if many <= most and not any([part & used == part for half, part in found if 2 * half <= many]):
            found.append((many, used))
    return [used for _, used in found]
