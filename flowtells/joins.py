"""Numbered things, joined pair by pair; each has a name, and things that hang together have one name."""


def own_names(many):
    """The names of so many things of which no two are joined."""
    return list(range(many))


def joined(names, one, other):
    """The names when one and other are joined: all that hangs together has the least of its numbers."""
    low, high = min(names[one], names[other]), max(names[one], names[other])
    return [low if name == high else name for name in names]


def names_of(many, pairs):
    """The names of so many things when the two of each pair are joined."""
    names = own_names(many)
    for one, other in pairs:
        names = joined(names, one, other)
    return names


def names_in(many, groups):
    """The names of so many things when all of each group, which is not empty, are joined."""
    return names_of(many, [(group[0], thing) for group in groups for thing in group])
