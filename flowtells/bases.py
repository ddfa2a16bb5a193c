"""Lists of integers: sums of them, what they share, and what they are by some of them that are independent."""

from flowtells.determinants import first_not_nought


def unit_points(size):
    """The points with 1 at one index and 0 at all others."""
    return [[1 if at == by else 0 for by in range(size)] for at in range(size)]


def made_of(points, times):
    """The sum of points, each so many times."""
    return tuple([sum_of_products(times, numbers) for numbers in zip(*points)])


def sum_of_products(one, other):
    """Two lists of as many integers, multiplied number by number and added up."""
    return sum([number * by for number, by in zip(one, other)])


def lessened(numbers, others, times):
    """Numbers, less so many times others."""
    return [number - times * other for number, other in zip(numbers, others)]


def nearest(top, bottom):
    """An integer that is nearest to top / bottom, bottom being above 0."""
    return (2 * top + bottom) // (2 * bottom)


def shares_of(rows, points):
    """What any two points share by the rows of a table."""
    weighed = [[sum_of_products(row, point) for row in rows] for point in points]
    return [[sum_of_products(point, by) for by in weighed] for point in points]


def by_first_basis(rows):
    """The numbers of the first independent rows, a number, and all rows as sums of these, told that number of times."""
    numbers, leads, left, worth = [], [], rows, 1
    for number in range(len(rows)):
        top = left[number]
        lead = first_not_nought([0 if at in leads else by for at, by in enumerate(top)])
        if lead is not None:
            left = [pivoted(row, top, lead, worth) for row in left]
            numbers.append(number)
            leads.append(lead)
            worth = top[lead]
    return numbers, worth, [tuple([row[lead] for lead in leads]) for row in left]


def pivoted(row, top, lead, before):
    """A row when the top row has become the one that alone has something at the index lead."""
    # As with Bareiss what comes is a determinant, so the division leaves no rest.
    return [number if at == lead else (top[lead] * number - row[lead] * top[at]) // before
            for at, number in enumerate(row)]


def small_sum(numbers, lists):
    """Numbers and these lists, each added or taken off, such that 0, 1 and -1 alone come; None if they never do."""
    if not lists:
        return numbers if -1 <= min(numbers) and max(numbers) <= 1 else None
    first, *rest = lists
    for times in (1, -1):
        found = small_sum(lessened(numbers, first, times), rest)
        if found is not None:
            return found
    return None


def many_bits(number):
    """How many bits of a number are 1."""
    return f"{number:b}".count("1")


def odd_bits(numbers):
    """The number whose bits tell at which indices integers are odd."""
    return sum([(number & 1) << at for at, number in enumerate(numbers)])
