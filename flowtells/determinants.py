"""Determinants of integers, told exactly."""


def determinant_of(rows):
    """The determinant of n rows of n integers; it is 1 for no row."""
    left, sign, before = rows, 1, 1
    while len(left) > 1:
        at = first_row(left)
        if at is None:
            return 0
        if at & 1:
            sign = -sign
        top, rest = left[at], left[:at] + left[at + 1:]
        left = [less_column(row, top, before) for row in rest]
        before = top[0]
    return sign * left[0][0] if left else 1


def first_row(rows):
    """The index of the first row that does not begin with 0, None if there is none."""
    for at, row in enumerate(rows):
        if row[0] != 0:
            return at
    return None


def less_column(row, top, before):
    """What is left of a row when the top row has cleared its first column."""
    # Bareiss: what comes is a determinant of some of the first rows, so the division leaves no rest.
    return [(top[0] * row[at] - row[0] * top[at]) // before for at in range(1, len(row))]
