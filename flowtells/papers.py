"""Papers: an answer, and what shows it to a reader who checks it."""


def fixed(value):
    """A value with each list in it as a tuple, all the way in through lists and tuples."""
    if isinstance(value, (list, tuple)):
        return tuple([fixed(item) for item in value])
    return value


def same_papers(one, other):
    """Whether two papers are of the same class, and their words and parts are equal."""
    return type(one) is type(other) and one.word == other.word and one.parts == other.parts


class Paper:
    """A paper with a word and parts; it is true."""

    def __init__(self, word, *parts):
        self.word = word
        self.parts = fixed(parts)

    def __eq__(self, other):
        return isinstance(other, Paper) and same_papers(self, other)

    def __bool__(self):
        return True


class Denial(Paper):
    """A paper that says no; it is false."""

    def __init__(self, word, *parts):
        super().__init__(word, *parts)

    def __eq__(self, other):
        return isinstance(other, Denial) and same_papers(self, other)

    def __bool__(self):
        return False
