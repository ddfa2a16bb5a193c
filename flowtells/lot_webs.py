"""The web of which the rows of a lot are the ties."""

from flowtells.bases import by_first_basis
from flowtells.bonds import relations
from flowtells.joins import names_in
from flowtells.pieces import together
from flowtells.stars import stars_of
from flowtells.webs import Web


def web_of(lot):
    """The web of which the rows are the ties and the least relations the bonds, None if there is no such."""
    # With more ties it would have two in a row.
    if len(lot.rows) > max(1, 3 * lot.size - 3):
        return None
    known, ends, places = relations(lot), {}, 1
    for piece in pieces_of(len(lot.rows), known):
        stars = places_of(lot, known, piece)
        if stars is None:
            return None
        for number in piece:
            # All pieces hang together at place 0.
            ends[number] = [place + places - 1 if place > 0 else 0 for place in ends_by(stars, number)]
        places += max(0, len(stars) - 1)
    return Web(places, [ends[number] for number in range(len(lot.rows))])


def pieces_of(many, known):
    """The numbers of so many rows, those of one piece of the lot in one tuple."""
    return together(list(enumerate(names_in(many, [used_by(relation) for relation in known]))))


def used_by(relation):
    """The numbers of the rows that a relation uses."""
    return [number for number, times in enumerate(relation) if times != 0]


def places_of(lot, known, piece):
    """For each place of a piece the relation of the ties there, None if no web has this piece; a loop needs none."""
    mine = [relation for relation in known if used_by(relation)[0] in piece]
    if not mine:
        return []
    independent, _, _ = by_first_basis([lot.rows[number] for number in piece])
    return stars_of(mine, len(piece) - len(independent) + 1)


def ends_by(stars, number):
    """The places of a piece out of which and into which a row leads."""
    told = [star[number] for star in stars]
    return (told.index(1), told.index(-1)) if told else (0, 0)
