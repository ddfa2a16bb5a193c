"""Papers and denials: words, parts, truth and equality."""

import unittest

from flowtells.papers import Denial, Paper, fixed
from tests.helpers import GREAT, Case, Odd


class Note(Paper):
    """A paper of a class of its own."""


class Refusal(Denial):
    """A denial of a class of its own."""


class Fixed(Case):

    def test_lists_become_tuples_all_the_way_in(self):
        self.same_kind(fixed([1, [None, (2, [])], "a"]), (1, (None, (2, ())), "a"))
        self.same_kind(fixed(value=([[[]]],)), ((((),),),))
        self.same_kind(fixed([]), ())
        self.same_kind(fixed(()), ())
        self.same_kind(fixed((1, 2)), (1, 2))

    def test_thirty_deep(self):
        value, wanted = [1], (1,)
        for _ in range(29):
            value, wanted = [value, [0]], (wanted, (0,))
        self.same_kind(fixed(value), wanted)

    def test_other_values_stay(self):
        for value in (None, True, False, 0, 1, GREAT, "a", "", b"x", 1.5, {"a": [1]}, {1}, range(2), Odd()):
            self.assertIs(fixed(value), value)
        inner = {"a": [1]}
        self.assertIs(fixed([inner])[0], inner)
        self.assertEqual(inner, {"a": [1]})

    def test_what_is_passed_stays(self):
        value = [1, [2, [3]]]
        fixed(value)
        self.same_kind(value, [1, [2, [3]]])


class Papers(Case):

    def test_word_and_parts(self):
        for kind in (Paper, Denial):
            paper = kind("note", [1, (2, [3])], "x", None)
            self.same_kind(paper.word, "note")
            self.same_kind(paper.parts, ((1, (2, (3,))), "x", None))
            self.same_kind(kind("empty").parts, ())
            self.same_kind(kind("ab").word, "ab")
            self.same_kind(kind(word="note").word, "note")

    def test_a_list_changed_later(self):
        for kind in (Paper, Denial):
            inner = [2]
            part = [1, inner]
            paper = kind("note", part)
            part.append(5)
            inner.append(7)
            self.same_kind(paper.parts, ((1, (2,)),))

    def test_truth(self):
        self.assertIs(bool(Paper("note")), True)
        self.assertIs(bool(Paper("", [])), True)
        self.assertIs(bool(Paper("note", 0, False, None)), True)
        self.assertIs(bool(Denial("note")), False)
        self.assertIs(bool(Denial("note", 1, True)), False)
        self.assertIs(bool(Note("note")), True)
        self.assertIs(bool(Refusal("note")), False)

    def test_a_denial_is_a_paper(self):
        self.assertEqual(Denial.__bases__, (Paper,))
        self.assertNotIsInstance(Paper("note"), Denial)


class Equality(Case):

    def test_of_one_class(self):
        for kind in (Paper, Denial, Note, Refusal):
            paper = kind("note", [1, [2]], "a")
            self.assertIs(paper == kind("note", (1, (2,)), "a"), True)
            self.assertIs(paper != kind("note", (1, (2,)), "a"), False)
            for other in (
                    kind("notes", [1, [2]], "a"), kind("note", [1, [3]], "a"), kind("note", [1, [2]], "b"),
                    kind("note", [1, [2]]), kind("note", [1, [2]], "a", "a"), kind("note", "a", [1, [2]])):
                self.assertIs(paper == other, False)
                self.assertIs(paper != other, True)

    def test_as_python_compares_parts(self):
        self.assertIs(Paper("note", 1) == Paper("note", True), True)
        self.assertIs(Denial("note", [0]) == Denial("note", (False,)), True)
        self.assertIs(Paper("note", Paper("in", [1])) == Paper("note", Paper("in", (1,))), True)
        self.assertIs(Paper("note", Paper("in")) == Paper("note", Denial("in")), False)

    def test_of_different_classes(self):
        kinds = (Paper, Denial, Note, Refusal)
        for one in kinds:
            for other in kinds:
                self.assertIs(one("note", 1) == other("note", 1), one is other)

    def test_with_other_values(self):
        for kind in (Paper, Denial):
            paper = kind("note", 1)
            for other in (None, "note", 1, ("note", (1,)), [1], True, Odd()):
                self.assertIs(paper == other, False)
                self.assertIs(paper != other, True)

    def test_with_an_object_of_the_same_attributes(self):
        other = Odd()
        other.word, other.parts = "note", (1,)
        self.assertIs(Paper("note", 1) == other, False)
        self.assertIs(Denial("note", 1) == other, False)


if __name__ == "__main__":
    unittest.main()
