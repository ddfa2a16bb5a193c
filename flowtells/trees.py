"""The first tree of a web, and how many trees it has."""

from flowtells.determinants import determinant_of
from flowtells.joins import joined, own_names
from flowtells.webs import need_web


def first_tree(web):
    """The ties of the first tree, ascending."""
    need_web(web, "web")
    names, taken = own_names(web.places), []
    for tie, (one, other) in enumerate(web.ties):
        if names[one] != names[other]:
            taken.append(tie)
            names = joined(names, one, other)
    return tuple(taken)


def many_trees(web):
    """How many trees the web has."""
    need_web(web, "web")
    # Kirchhoff: without the row and column of one place the determinant counts the trees.
    return determinant_of([row[1:] for row in place_rows(web)[1:]])


def place_rows(web):
    """At row i, column j, what the pulls of height 1 at place i alone and at place j alone share."""
    rows = [[0] * web.places for _ in range(web.places)]
    for one, other in web.ties:
        rows[one][one] += 1
        rows[other][other] += 1
        rows[one][other] -= 1
        rows[other][one] -= 1
    return rows
