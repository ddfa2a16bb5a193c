"""Questions about any values: whether they are integers, and which comes twice."""


def is_integer(value):
    """Whether a value is an integer."""
    # Python takes True and False for integers, the package does not.
    return isinstance(value, int) and not isinstance(value, bool)


def is_within(value, least, most):
    """Whether a value is an integer from least to most; None is no bound."""
    if not is_integer(value):
        return False
    if least is not None and value < least:
        return False
    return most is None or value <= most


def are_integers(value):
    """Whether a value is a list or tuple of integers, perhaps an empty one."""
    return isinstance(value, (list, tuple)) and all([is_integer(item) for item in value])


def first_twice(values):
    """Of a list of integers the first one that equals one ahead of it, None if there is none."""
    seen = set()
    for value in values:
        if value in seen:
            return value
        seen.add(value)
    return None
