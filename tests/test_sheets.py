"""Sheets: what is shown, in lines of columns (point 40)."""

import unittest

from unnumbered.keyed import run_grouped
from unnumbered.programs import Program
from unnumbered.running import run
from unnumbered.series import Series
from unnumbered.sheets import group_sheet, series_sheet, sheet, shown
from unnumbered.values import Told, Unnumbered

A = Unnumbered("a")
PROGRAM = Program.of(
    "keep low", "flag bad", "sum total", "count many", "low = x if low is nothing or x < low", "total += x", "many += 1",
    "set bad if x != x", "answer least = low", "answer bad = bad", "answer mean = total by many",
    "answer abcdefgh = told if bad else many",
)


class Shown(unittest.TestCase):
    def test_numbers(self):
        for number, text in (
            (0, "+0"), (5, "+5"), (-5, "-5"), (999, "+999"), (-999, "-999"), (1000, "+1,000"), (1234, "+1,234"),
            (-1234, "-1,234"), (123456, "+123,456"), (-1234567, "-1,234,567"), (10 ** 9, "+1,000,000,000"),
        ):
            self.assertEqual(shown(number), text)

    def test_numbers_of_400_digits(self):
        number = int(100 * "1234")
        digits = str(number)
        groups = [digits[:1], *[digits[at:at + 3] for at in range(1, 400, 3)]]
        self.assertEqual(shown(number), "+" + ",".join(groups))
        self.assertEqual(shown(-number), "-" + ",".join(groups))

    def test_unnumbered_and_nothing(self):
        self.assertEqual([shown(A), shown(Unnumbered("abcdefgh")), shown(None)], ["?a", "?abcdefgh", "-"])

    def test_truth_values(self):
        self.assertEqual([shown(True), shown(False)], ["yes", "no"])

    def test_means(self):
        for mean, text in (((5, 2), "+5 by +2"), ((0, 0), "+0 by +0"), ((-1234, 1000), "-1,234 by +1,000"), ((A, 3), "?a by +3"),
                           ((None, 1), "- by +1")):
            self.assertEqual(shown(mean), text)

    def test_told(self):
        self.assertEqual([shown(Told(None)), shown(Told(0)), shown(Told(3)), shown(Told(249))],
                         ["told", "told at 0", "told at 3", "told at 249"])

    def test_told_at_a_far_place(self):
        self.assertEqual(shown(Told(1234)), "told at 1,234")

    def test_by_name(self):
        self.assertEqual(shown(result=7), "+7")


class Sheet(unittest.TestCase):
    def test_columns(self):
        self.assertEqual(sheet(run(PROGRAM, Series.read("1200 -7 ?a"))), [
            "least   " + "-7".rjust(20), "bad     " + "yes".rjust(20), "mean    " + "?a by +3".rjust(20),
            "abcdefgh" + "told".rjust(20),
        ])
        self.assertEqual(sheet(run(PROGRAM, Series(()))), [
            "least                      -", "bad                       no", "mean                +0 by +0",
            "abcdefgh                  +0",
        ])

    def test_counts_and_places_are_shown_as_numbers(self):
        one = Program.of("count many", "place at", "place to", "many += 1", "at = here", "answer a = many", "answer b = at",
                         "answer c = to")
        self.assertEqual(sheet(run(one, Series.read("7 8 9"))), [
            "a       " + "+3".rjust(20), "b       " + "+2".rjust(20), "c       " + "-".rjust(20),
        ])

    def test_exact_width(self):
        one = Program.of("keep low", "low = x", "answer low = low")
        for entry, width in ((10 ** 13, 28), (10 ** 14, 28), (10 ** 15, 30), (-10 ** 15, 30)):
            lines = sheet(run(one, Series.of(entry)))
            self.assertEqual(len(lines[0]), width)
            self.assertEqual(lines, ["low".ljust(8) + shown(entry).rjust(20)])

    def test_longer_texts_stand_in_full(self):
        one = Program.of("sum total", "count many", "total += x", "many += 1", "answer mean = total by many")
        entry = -10 ** 399
        self.assertEqual(sheet(run(one, Series.of(entry))), ["mean    -1," + ",".join(133 * ["000"]) + " by +1"])

    def test_order_of_the_answers(self):
        one = Program.of("answer z = 0", "answer b = nothing", "answer a = 0")
        self.assertEqual([line[0] for line in sheet(run(one, Series(())))], ["z", "b", "a"])

    def test_by_name_and_new_each_time(self):
        outcome = run(PROGRAM, Series(()))
        lines = sheet(outcome=outcome)
        self.assertIs(type(lines), list)
        lines.clear()
        self.assertEqual(len(sheet(outcome)), 4)


class SeriesSheet(unittest.TestCase):
    def test_entries(self):
        self.assertEqual(series_sheet(Series.read("1234 ?a -5 0")), [
            "0       " + "+1,234".rjust(20), "1       " + "?a".rjust(20), "2       " + "-5".rjust(20), "3       " + "+0".rjust(20),
        ])

    def test_without_entries(self):
        self.assertEqual(series_sheet(Series(())), [])

    def test_places_and_longer_texts(self):
        lines = series_sheet(Series(249 * [0] + [10 ** 399]))
        self.assertEqual((lines[10], lines[-2]), ("10".ljust(8) + "+0".rjust(20), "248".ljust(8) + "+0".rjust(20)))
        self.assertEqual(lines[-1], "249     +1," + ",".join(133 * ["000"]))

    def test_by_name_and_new_each_time(self):
        series = Series.of(1)
        series_sheet(series=series).clear()
        self.assertEqual(len(series_sheet(series)), 1)


class GroupSheet(unittest.TestCase):
    def test_groups(self):
        rows = run_grouped(PROGRAM, Series.read("?abcdefg 1 ?abcdefg -2000"), Series.read("5 ?b 6 7"), "object")
        self.assertEqual(group_sheet(rows), [
            "?abcdefg" + "+5".rjust(20) + "no".rjust(20) + "+11 by +2".rjust(20) + "+2".rjust(20),
            "+1      " + "?b".rjust(20) + "yes".rjust(20) + "?b by +1".rjust(20) + "told".rjust(20),
            "-2,000  " + "+7".rjust(20) + "no".rjust(20) + "+7 by +1".rjust(20) + "+1".rjust(20),
        ])

    def test_the_key_of_all_unnumbered_ones(self):
        rows = run_grouped(Program.of("answer a = 0"), Series.read("?a 1 ?b"), Series.read("5 6 7"), "one")
        self.assertEqual(group_sheet(rows), ["-       " + "+0".rjust(20), "+1      " + "+0".rjust(20)])

    def test_longer_keys_and_results(self):
        one = Program.of("keep low", "low = x", "answer a = low", "answer b = 0")
        rows = run_grouped(one, Series([10 ** 399, Unnumbered("abcdefgh")]), Series([-10 ** 399, 5]), "object")
        long = "1," + ",".join(133 * ["000"])
        self.assertEqual(group_sheet(rows), [
            f"+{long}-{long}" + "+0".rjust(20), "?abcdefgh" + "+5".rjust(20) + "+0".rjust(20),
        ])

    def test_without_groups(self):
        self.assertEqual(group_sheet([]), [])

    def test_rows_stay(self):
        rows = run_grouped(PROGRAM, Series.read("1 ?a"), Series.read("5 6"), "each")
        copy = list(rows)
        group_sheet(rows=rows).clear()
        self.assertEqual([one is other for one, other in zip(rows, copy)], [True, True])
        self.assertEqual(len(group_sheet(rows)), 2)


if __name__ == "__main__":
    unittest.main()
