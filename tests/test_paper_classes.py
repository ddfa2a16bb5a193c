"""All classes of papers of the package: words, parts, truth, equality, by place and by name, and copying."""

import unittest
from itertools import product

from flowtells.alike import Alike, Unlike
from flowtells.bars import LotOf, NoLot
from flowtells.flows import InRounds
from flowtells.grown import Grown
from flowtells.papers import Denial, Paper, fixed
from flowtells.plane import NotPlane, Plane
from flowtells.same import Same, Unsame
from flowtells.shortened import Shortened
from flowtells.tables import Table
from flowtells.unwebbed import NoWeb
from flowtells.webs import Web
from tests.helpers import GREAT, Case, Odd

# Each class with the names of its parts.
PAPERS = {
    InRounds: ["pairs"], Shortened: ["table", "points"], LotOf: ["lot"], Grown: ["web", "times", "flows"],
    Alike: ["ties"], Same: ["points"], Plane: ["sides", "ties"]}
DENIALS = {
    NoLot: ["bar"], NoWeb: ["kept", "idle", "names"], Unlike: [], Unsame: [], NotPlane: ["struck", "drawn", "names"]}
ALL = {**PAPERS, **DENIALS}


def values():
    """Values of all kinds for a part, new ones at each call."""
    return [
        None, True, False, 0, 1, -1, GREAT, "", "ab", b"x", 1.5, [], (), [[]], [1, [2, [3, ()]]], ((1, 2), [3, [4]]),
        {"a": [1]}, Web(2, [(0, 1)]), Table([[1]]), [Web(1, []), [Table([[2]])]], Paper("note", [1]), [Denial("x", [[1]])],
        InRounds([[[1], 2]]), range(3), Odd()]


def deep(levels):
    """Lists and tuples, one in the other, so many deep, and the same in tuples alone."""
    value, wanted = [7], (7,)
    for at in range(levels - 1):
        value, wanted = ([value, at] if at % 2 else (value, at)), (wanted, at)
    return value, wanted


class Classes(Case):

    def test_words_truth_and_bases(self):
        for kind, names in ALL.items():
            paper = kind(*[[1]] * len(names))
            self.same_kind([paper.word, bool(paper)], [kind.__name__.lower(), kind in PAPERS])
            self.assertEqual(kind.__bases__, (Paper,) if kind in PAPERS else (Denial,))
        self.assertEqual(set(Paper.__subclasses__()) & set(ALL), set(PAPERS))

    def test_parts(self):
        for kind, names in ALL.items():
            for value in values():
                paper = kind(*[value] * len(names))
                self.assertEqual(list(paper.parts), [fixed(value)] * len(names))
                for name, part in zip(names, paper.parts):
                    self.assertIs(getattr(paper, name), part)
                    if not isinstance(value, (list, tuple)):
                        self.assertIs(part, value)
                self.assertEqual(set(vars(paper)), {"word", "parts"} | set(names))
                self.assertIs(bool(paper), kind in PAPERS)

    def test_parts_in_their_order(self):
        for kind, names in ALL.items():
            parts = [[at, [at]] for at in range(len(names))]
            wanted = tuple((at, (at,)) for at in range(len(names)))
            self.same_kind(kind(*parts).parts, wanted)
            self.same_kind(kind(**dict(zip(names, parts))).parts, wanted)
            self.same_kind(kind(**dict(reversed(list(zip(names, parts))))).parts, wanted)
            for at in range(len(names)):
                mixed = dict(list(zip(names, parts))[at:])
                self.same_kind(kind(*parts[:at], **mixed).parts, wanted)

    def test_nested_several_deep(self):
        for levels in (2, 5, 29):
            value, wanted = deep(levels)
            for kind, names in ALL.items():
                self.same_kind(kind(*[value] * len(names)).parts, (wanted,) * len(names))

    def test_what_is_passed_may_be_changed_behind(self):
        for kind, names in ALL.items():
            inner = [[1], 2]
            parts = [[inner, (3, [4])] for _ in names]
            paper = kind(*parts)
            inner[0].append(5)
            inner.append(6)
            for part in parts:
                part[1][1].append(7)
                part.append(8)
            self.same_kind(paper.parts, ((((1,), 2), (3, (4,))),) * len(names))


class Equality(Case):

    def test_of_one_class(self):
        for kind, names in ALL.items():
            parts, again = [[at, [1, (2,)]] for at in range(len(names))], [(at, (1, [2])) for at in range(len(names))]
            self.assertIs(kind(*parts) == kind(*again), True)
            self.assertIs(kind(*parts) != kind(*again), False)
            for at in range(len(names)):
                for other in (None, [], [at, [1, (3,)]], [at, [1]], [at + 1, [1, (2,)]], "ab"):
                    bent = parts[:at] + [other] + parts[at + 1:]
                    self.assertIs(kind(*parts) == kind(*bent), False)
                    self.assertIs(kind(*parts) != kind(*bent), True)

    def test_as_python_compares_parts(self):
        for kind, names in ALL.items():
            for one, other in ((1, True), (0, False), ([1], [True]), (1, 1.0), (Web(1, []), Web(1, ())),
                               (Paper("note", [1]), Paper("note", (1,))), ([Table([[1]])], (Table(((1,),)),))):
                self.assertIs(kind(*[one] * len(names)) == kind(*[other] * len(names)), True)

    def test_of_different_classes(self):
        for one, other in product(ALL, ALL):
            paper, by = one(*[[1]] * len(ALL[one])), other(*[[1]] * len(ALL[other]))
            self.assertIs(paper == by, one is other)
            self.assertIs(paper != by, one is not other)

    def test_with_plain_papers_and_other_values(self):
        for kind, names in ALL.items():
            paper = kind(*[[1]] * len(names))
            like = Odd()
            like.word, like.parts = paper.word, paper.parts
            for other in values() + [Paper(paper.word, *paper.parts), Denial(paper.word, *paper.parts), paper.parts, like]:
                self.assertIs(paper == other, False)
                self.assertIs(paper != other, True)


if __name__ == "__main__":
    unittest.main()
