"""Stars: least relations of a piece of a lot that can be the ties at each place of a web."""

from flowtells.bases import lessened, many_bits, odd_bits, sum_of_products


def stars_of(known, many):
    """So many of the known relations of a piece of which just two use each row; None if there are no such.

    Signs are put ahead of them such that each row is told once by 1 and once by -1. From the second one on each
    shares a row with some ahead of it, so they hang together.
    """
    by_use = {odd_bits(relation): relation for relation in known}
    # The one relation of a piece that has no others is both its places.
    uses = sorted(by_use) * (2 if many == 2 else 1)
    every = 0
    for use in uses:
        every |= use
    found = chosen_uses(uses, 0, every, many)
    return None if found is None else with_signs([by_use[use] for use in found])


def chosen_uses(uses, once, twice, many):
    """So many of the uses, by which the rows of once are used once, those of twice twice; None if there are no such.

    The rows are the bits of numbers. A row of once comes first, until there are none left: what goes on without them
    would not hang together with what was chosen ahead.
    """
    if many == 0:
        return None if once | twice else []
    # Each relation uses three rows at least, as the rows of a lot are unlike.
    if many_bits(once) + 2 * many_bits(twice) < 3 * many:
        return None
    row = once & -once or twice & -twice
    fit = [use for use in uses if use & ~(once | twice) == 0]
    ways, others = [use for use in fit if use & row], [use for use in fit if not use & row]
    for at, use in enumerate(ways):
        more = once & ~use | twice & use
        # What has been tried is not asked for again.
        found = chosen_uses(ways[at + 1:] + others, more, twice & ~use, many - 1) if more or many == 1 else None
        if found is not None:
            return [use] + found
    return None


def with_signs(stars):
    """Relations, or their contraries, such that each row is told once by 1 and once by -1."""
    told, total = [], [0] * len(stars[0])
    for star in stars:
        times = -1 if sum_of_products(total, star) > 0 else 1
        told.append(tuple([times * number for number in star]))
        total = lessened(total, star, -times)
    return told
