"""Determinants of integers, told exactly."""


def determinant_of(rows):
    """The determinant of n rows of n integers; it is 1 for no row."""
    left, sign, before = rows, 1, 1
    while len(left) > 1:
        at = first_row(left)
        if at is None:
            return 0
        if at & 1:
            sign = -sign
        top, rest = left[at], left[:at] + left[at + 1:]
        left = [cleared(row, top, 0, before) for row in rest]
        before = top[0]
    return sign * left[0][0] if left else 1


def first_row(rows):
    """The index of the first row that does not begin with 0, None if there is none."""
    return first_not_nought([row[0] for row in rows])


def first_not_nought(numbers):
    """The index of the first number that is not 0, None if there is none."""
    for at, number in enumerate(numbers):
        if number != 0:
            return at
    return None


def cleared(row, top, lead, before):
    """What is left of a row, without the column of this index, when the top row has cleared it."""
    # Bareiss: what comes is a determinant of some of the first rows, so the division leaves no rest.
    return [(top[lead] * row[at] - row[lead] * top[at]) // before for at in range(len(row)) if at != lead]


def seen_at(rows, others):
    """What rows are at independent points, as many as there are, at which all of these others are 0.

    Each row is told by one integer for each of these points; which points these are the others tell alone.
    """
    left = list(others)
    while left:
        top, *rest = left
        left = rest
        lead = first_not_nought(top)
        if lead is not None:
            rows = [cleared(row, top, lead, 1) for row in rows]
            left = [cleared(row, top, lead, 1) for row in rest]
    return rows


def leave_noughts_alone(rows):
    """Whether at noughts alone all of these rows are 0."""
    return not seen_at(rows[:1], rows)[0]
