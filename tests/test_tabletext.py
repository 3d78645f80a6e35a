"""[7]: tables as texts."""

import unittest

from helpers import raised, some_pairs, table_of
from needforth.errors import BadText
from needforth.tables import Table
from needforth.tabletext import read_table, write_table

BIG = 10 ** 60 - 1


class Writing(unittest.TestCase):
    def test_examples(self):
        wanted = (((0, 2), (3, 3), 2, "0 2 then 3 3 up 2"), ((1, 1), (), 0, "1 1 never"),
                  ((), (1,), 1, "then 1 up 1"), ((), (), 0, "never"), ((3,), (4, 4), 0, "3 then 4 up 0"))
        for head, loop, rise, text in wanted:
            self.assertEqual(write_table(Table(head, loop, rise)), text)
        self.assertEqual(write_table(table=Table((1, 2), (3, 4), 2)), "then 1 up 1")

    def test_big_numbers(self):
        self.assertEqual(write_table(Table((BIG + 1,))), "1" + "0" * 60 + " never")

    def test_there_and_back(self):
        for form, _ in some_pairs(41, 600):
            table = table_of(form)
            self.assertEqual(read_table(write_table(table)), table)


class Reading(unittest.TestCase):
    def wrong(self, text, place):
        self.assertEqual(raised(BadText, read_table, text), {"place": place}, text)

    def test_right(self):
        table = read_table("0 2 then 3 3 up 2")
        self.assertEqual([table(7), table.end, write_table(table)], [7, None, "0 2 then 3 3 up 2"])
        self.assertEqual(read_table(text="1 2 then 3 4 up 2"), Table.shift(0))
        self.assertEqual(read_table("then 5 5 5 up 0"), Table((), (5,), 0))
        self.assertEqual(read_table("never"), Table(()))
        self.assertEqual(read_table(f"then {BIG} up {BIG}"), Table((), (BIG,), BIG))
        self.assertEqual(read_table(f"then 0 {BIG} up {BIG}"), Table((), (0, BIG), BIG))

    def test_no_string(self):
        for thing in (None, 3, ("never",), ["never"], b"never", True):
            self.wrong(thing, -1)

    def test_lacks_an_end(self):
        for text, place in (("1 then 2 up", 4), ("1", 1), ("1 2 3", 3), ("then", 1), ("then 1", 2), ("1 then 1 2", 4)):
            self.wrong(text, place)

    def test_empty_words(self):
        for text, place in (("", 0), (" never", 0), ("never ", 1), ("1  never", 1), ("then 1 up 1 ", 4), ("1 ", 1),
                            ("then  1 up 1", 1), ("then 1 up ", 3), ("then 1  up 1", 2), (" ", 0)):
            self.wrong(text, place)

    def test_wrong_words(self):
        for text, place in (("Never", 0), ("up 1", 0), ("then up 0", 1), ("then never", 1), ("1 up 2", 1),
                            ("1 then then 2 up 1", 2), ("never 1", 1), ("never never", 1), ("1 never then 2 up 1", 2),
                            ("then 1 up 1 1", 4), ("then 1 up 1 up", 4), ("then 1 up up", 3), ("then 1 then 2 up 1", 2),
                            ("then 1 never", 2), ("x never", 0)):
            self.wrong(text, place)

    def test_wrong_numbers(self):
        for word in ("01", "00", "-1", "+1", "1.", "1_0", "0x1", "1" * 61, "1e3", "\u0663", "\u00b2", "1\n"):
            self.wrong(word + " never", 0)
            self.wrong("0 then " + word + " up 1", 2)
            self.wrong("0 then 1 up " + word, 4)
        self.assertEqual(read_table("1" * 60 + " never"), Table((int("1" * 60),)))
        self.assertEqual(read_table("then 0 up " + "9" * 60).rise, BIG)

    def test_numbers_that_fall(self):
        for text, place in (("2 1 never", 1), ("2 1", 1), ("0 3 2 then 1 up 1", 2), ("3 then 2 up 1", 2),
                            ("3 then 4 3 up 1", 3), ("1 then 2 1", 3)):
            self.wrong(text, place)

    def test_rises_that_do_not_fit(self):
        for text, place in (("then 2 4 up 1", 4), ("then 2 4 up 1 x", 4), ("9 then 9 9 12 up 2", 6),
                            (f"then 0 {BIG} up {BIG - 1}", 4)):
            self.wrong(text, place)
        self.assertEqual(read_table("then 2 4 up 2"), Table((), (2, 4), 2))

    def test_written_with_too_great_a_number(self):
        self.wrong(write_table(Table((5, BIG + 1))), 1)


if __name__ == "__main__":
    unittest.main()
