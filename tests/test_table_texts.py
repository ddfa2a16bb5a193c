"""The texts of tables."""

import unittest

from flowtells.errors import BadText
from flowtells.tables import Table
from tests.helpers import GREAT, Case, not_lists


class Texts(Case):

    def refuses_text(self, text, item):
        self.refuses(BadText, {"line": 0, "item": item}, Table.read, text)

    def test_there_and_back(self):
        for rows in (
                [[1]], [[GREAT]], [[2, -1], [-1, 2]], [[GREAT, 1 - GREAT], [1 - GREAT, GREAT]],
                [[3, 1, -1], [1, 3, 1], [-1, 1, 3]], [[2, 0, 0, 1], [0, 3, 0, 0], [0, 0, 10, 0], [1, 0, 0, 1]],
                [[9 if at == by else (at + by) % 2 for by in range(5)] for at in range(5)]):
            table = Table(rows)
            text = " ".join([str(len(rows)), ":"] + [str(number) for row in rows for number in row])
            self.assertEqual(str(table), text)
            found = Table.read(text)
            self.assertIs(type(found), Table)
            self.same_kind([found.rows, found.size, found.determinant], [table.rows, table.size, table.determinant])
            self.assertTrue(Table.read(text=text) == table)

    def test_sizes(self):
        for size in ("0", "6", "-1", "10", str(GREAT), "01", "x", ""):
            self.refuses_text(size + " : 1", 0)
        self.same_kind(Table.read("1 : 1").rows, ((1,),))
        five = [[int(at == by) for by in range(5)] for at in range(5)]
        self.assertEqual(Table.read(str(Table(five))).size, 5)

    def test_each_text_cut_short(self):
        for text in ("1 : 7", "2 : 2 -1 -1 2", "3 : 3 1 -1 1 3 1 -1 1 3"):
            items = text.split(" ")
            for many in range(1, len(items)):
                self.refuses_text(" ".join(items[:many]), many)

    def test_too_long(self):
        for text in ("1 : 7", "2 : 2 -1 -1 2", "3 : 3 1 -1 1 3 1 -1 1 3"):
            many = len(text.split(" "))
            for more in (" 0", " ", " x", " 0 0", " 1 x"):
                self.refuses_text(text + more, many)

    def test_an_item_in_no_right_writing(self):
        wrong = [
            "", "x", "-", "--1", "+2", "02", "00", "-0", "-01", "2.0", "2_0", "0x1", "\n", "2\n", "\t2", "2\t", ":",
            "\u0662", "\u00b2", "True", "9" * 61, "-" + "9" * 61, "0" * 61, "9" * 5000,
        ]
        for item in wrong:
            for at in (0, 2, 3, 4, 5):
                items = "2 : 2 -1 -1 2".split(" ")
                items[at] = item
                self.refuses_text(" ".join(items), at)
            if item != ":":
                self.refuses_text(" ".join(["2", item, "2", "-1", "-1", "2"]), 1)

    def test_sixty_digits_can_stand(self):
        most = "9" * 60
        self.same_kind(Table.read("1 : " + most).rows, ((10 ** 60 - 1,),))
        less = "8" * 60
        self.same_kind(Table.read(f"2 : {most} -{less} -{less} {most}").rows[0], (int(most), -int(less)))
        self.refuses_text("1 : 1" + "0" * 60, 2)
        self.refuses_text(f"2 : {most} -{most} -{most} {most}", 5)

    def test_unlike_the_other_side(self):
        self.refuses_text("2 : 2 -1 0 2", 4)
        self.refuses_text("2 : 2 -1 1 2", 4)
        self.refuses_text("2 : 2 -1 1", 4)
        self.refuses_text("2 : 2 -1 1 x 5 5", 4)
        items = "3 : 3 1 -1 1 3 2 -1 2 3".split(" ")
        for at in (5, 8, 9):
            for item in ("0", "5", str(GREAT)):
                self.refuses_text(" ".join(items[:at] + [item] + items[at + 1:]), at)
        for at in (3, 4, 7):
            bent = items[:at] + ["0"] + items[at + 1:]
            self.refuses_text(" ".join(bent), {3: 5, 4: 8, 7: 9}[at])

    def test_only_the_whole_shows_lengths(self):
        for text in ("1 : 0", "1 : -5", "2 : 1 2 2 3", "2 : 0 1 1 0", "2 : -1 0 0 -1", "2 : 1 1 1 1", "2 : 0 0 0 1",
                     "3 : 1 -1 0 -1 2 -1 0 -1 1", "3 : -1 0 0 0 1 0 0 0 1"):
            items = text.split(" ")
            self.refuses_text(text, len(items) - 1)
            self.refuses_text(" ".join(items[:-1]), len(items) - 1)
            self.refuses_text(text + " 1", len(items))

    def test_empty_items(self):
        for text, item in (("", 0), (" ", 0), (" 1 : 7", 0), ("1  : 7", 1), ("1 :  7", 2), ("1 : 7 ", 3), ("1 : ", 2),
                           ("1 ", 1), ("2 : 2  -1 -1 2", 3), ("1 : 7\n", 2), ("1 :\n7", 1)):
            self.refuses_text(text, item)

    def test_what_is_no_string(self):
        for value in not_lists() + [[], ["1", ":", "7"], ("1 : 7",), Table([[7]]), b"1 : 7"]:
            if not isinstance(value, str):
                self.refuses_text(value, 0)

    def test_read_off_an_object(self):
        self.assertEqual(Table([[1]]).read("1 : 7"), Table([[7]]))


if __name__ == "__main__":
    unittest.main()
