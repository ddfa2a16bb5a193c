"""Texts: strings of items with single blanks between, read item by item."""

from flowtells.checks import is_within
from flowtells.errors import BadText

MOST_DIGITS = 60


def items_of(text):
    """The items of a text; an empty one is an item, too."""
    if not isinstance(text, str):
        raise BadText(0, 0)
    return text.split(" ")


def number_of(item):
    """The integer that an item tells in its one way of writing, None for any other item."""
    digits = item[1:] if item.startswith("-") else item
    # isdigit alone would let digits of other scripts pass.
    if not (digits.isascii() and digits.isdigit()) or len(digits) > MOST_DIGITS:
        return None
    if digits.startswith("0") and item != "0":
        return None
    return int(item)


def item_at(items, index):
    """The item at an index that is no greater than the number of items."""
    if index >= len(items):
        raise BadText(0, len(items))
    return items[index]


def number_at(items, index, least, most):
    """The integer at an index, from least to most."""
    number = number_of(item_at(items, index))
    if not is_within(number, least, most):
        raise BadText(0, index)
    return number


def read_colon(items, index):
    """Refuse any item but a colon at an index."""
    if item_at(items, index) != ":":
        raise BadText(0, index)


def read_end(items, index):
    """Refuse any item from an index on."""
    if len(items) > index:
        raise BadText(0, index)
