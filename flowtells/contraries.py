"""A list of integers or its contrary: which one of them is told."""

from flowtells.determinants import first_not_nought


def told_way(numbers):
    """Of a list of integers and its contrary the one whose first integer other than 0 is above 0."""
    return tuple(numbers) if is_told_way(numbers) else tuple([-number for number in numbers])


def is_told_way(numbers):
    """Whether of a list of integers the first one other than 0, which there must be, is above 0."""
    at = first_not_nought(numbers)
    return at is not None and numbers[at] > 0
