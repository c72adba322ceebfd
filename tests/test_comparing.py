"""Comparing: two programs, alike or parted (points 18, 26, and 3)."""

import itertools
import unittest

from tests.brute import AskedToCompare, check
from unnumbered.comparing import compare, is_comparison
from unnumbered.errors import TooMany, Unlike
from unnumbered.judging import Verdict
from unnumbered.programs import Program
from unnumbered.running import run
from unnumbered.series import Series
from unnumbered.values import Told, Unnumbered

A = Unnumbered("a")
NOTHINGS = (None, True, False, 0, "", "alike", [], (), A, Told(None), Series(()), (1,), (None, None), (A, A), (A, A, A),
            [["alike"], [Series(())]], (Series(()), Series(())), 4 * (0,))


def low(*lines):
    return Program.of("keep low", *lines, "answer least = low")


def series(*texts):
    return tuple(Series.read(text) for text in texts)


LESS = low("low = x if low is nothing or x < low")
TURNED = low("low = x if low is nothing or not x >= low")


class CannotBeCompared(unittest.TestCase):
    def unlike(self, one, other):
        names = []
        for first, second in ((one, other), (other, one)):
            for call in (lambda: compare(first, second), lambda: is_comparison(first, second, None),
                         lambda: compare(first, second, unnumbered=False),
                         lambda: is_comparison(first, second, None, unnumbered=False)):
                with self.assertRaises(Unlike) as caught:
                    call()
                names.append(caught.exception.name)
        self.assertEqual(len(set(names)), 1)
        return names[0]

    def test_names(self):
        one = Program.of("answer b = 0", "answer d = 0")
        self.assertEqual(self.unlike(one, Program.of("answer b = 0")), "d")
        self.assertEqual(self.unlike(one, Program.of("answer d = 0", "answer a = 0", "answer b = 0")), "a")
        self.assertEqual(self.unlike(one, Program.of("answer e = 0", "answer c = 0")), "b")
        self.assertEqual(self.unlike(one, Program.of("answer d = 0", "answer c = 0")), "b")

    def test_kinds(self):
        registers = ("keep low", "flag bad", "sum total", "count many", "place at")
        results = ("low", "bad", "total", "many", "at", "total by many")
        for one, other in itertools.permutations(results, 2):
            first = Program.of(*registers, "answer c = 0", f"answer b = {one}")
            second = Program.of(*registers, f"answer b = {other}", "answer c = 0")
            self.assertEqual(self.unlike(first, second), "b")

    def test_first_in_ascending_order(self):
        one = Program.of("flag bad", "answer d = 0", "answer c = bad", "answer b = 0")
        self.assertEqual(self.unlike(one, Program.of("answer d = 0", "answer c = 0", "answer a = 0", "answer b = 0")), "a")
        self.assertEqual(self.unlike(one, Program.of("answer e = 0", "answer c = 0", "answer b = 0")), "c")

    def test_other_registers_and_orders_can_be_compared(self):
        one = Program.of("keep low", "flag bad", "low = x", "answer a = low", "answer b = bad")
        other = Program.of("flag low", "sum total", "keep high", "high = x", "answer b = low", "answer a = max(high, high)")
        self.assertTrue(compare(one, other))
        self.assertFalse(compare(one, Program.of("flag low", "keep high = 0", "high = x", "answer b = low",
                                                 "answer a = high")))

    def test_told_is_of_the_kind_of_its_result(self):
        one = Program.of("flag bad", "answer a = told if bad else 0")
        self.assertTrue(compare(one, Program.of("answer a = 0")))

    def test_unlike_goes_ahead_of_too_many(self):
        many = ("keep low", "steps hold, shift, shift", "low = before")
        with self.assertRaises(Unlike):
            compare(Program.of(*many, "answer a = low"), Program.of(*many, "answer b = low"))


class Compare(unittest.TestCase):
    def test_alike(self):
        one = low("low = min(x, low) if not low is nothing", "low = x if low is nothing")
        other = low("low = x if low is nothing or x < low or x != x")
        verdict = compare(one, other)
        self.assertIs(type(verdict), Verdict)
        # ?a, then 5: min(5, ?a) is 5, but 5 < ?a does not hold.
        self.assertEqual((bool(verdict), verdict.certificate[0]), (False, "parted"))
        other = low("low = x if low is nothing or not low <= x")
        self.assertEqual(compare(low("low = x if low is nothing or not (low <= x)"), other).certificate[0], "alike")

    def test_example_of_a_turned_comparison(self):
        verdict = compare(LESS, TURNED)
        self.assertEqual((bool(verdict), len(verdict), verdict.certificate[:2]), (False, 2, ("parted", "least")))
        one, other = [run(program, verdict.certificate[2]).answers["least"] for program in (LESS, TURNED)]
        self.assertNotEqual(str(one), str(other))
        verdict = compare(LESS, TURNED, unnumbered=False)
        self.assertEqual((bool(verdict), len(verdict), verdict.certificate[0]), (True, 0, "alike"))
        self.assertEqual([row.marks() for row in verdict.certificate[1]], 4 * [[]])
        self.assertEqual(len(compare(LESS, LESS).certificate[1]), 5)

    def test_unnumbered_is_a_name_alone(self):
        with self.assertRaises(TypeError):
            compare(LESS, TURNED, False)
        with self.assertRaises(TypeError):
            is_comparison(LESS, TURNED, None, False)
        self.assertFalse(compare(LESS, TURNED, unnumbered=True))

    def test_without_entries(self):
        verdict = compare(low(), Program.of("keep low = 0", "answer least = low"))
        self.assertEqual(verdict.certificate, ("parted", "least", Series(())))
        self.assertEqual((bool(verdict), len(verdict)), (False, 0))

    def test_truth_values_and_places_and_means(self):
        ends = ("answer a = bad", "answer b = at", "answer c = total by many")
        registers = ("flag bad", "place at", "sum total", "count many")
        one = Program.of(*registers, "at = here", "total += x", *ends)
        self.assertTrue(compare(one, one))
        for line, name in (("set bad", "a"), ("at = here", None), ("many += 1", "c"), ("total -= x", "c"),
                           ("total += 0", None), ("skip", None)):
            verdict = compare(one, Program.of(*registers, "at = here", "total += x", line, *ends))
            self.assertEqual((len(verdict), verdict.certificate[1] if name else None), (1 if name else 0, name), line)

    def test_sums_that_agree_by_chance_are_moved_apart(self):
        for between in ("0 < x and x < before", "x < 0 and before < x"):
            one = Program.of("sum total", f"total += before if {between}", "answer all = total")
            other = Program.of("sum total", *(2 * [f"total += x if {between}"]), "answer all = total")
            for unnumbered in (True, False):
                certificate = compare(one, other, unnumbered=unnumbered).certificate
                self.assertEqual((certificate[0], len(certificate[2])), ("parted", 2))
                self.assertNotEqual(*[run(program, certificate[2]).answers["all"] for program in (one, other)])
                self.assertTrue(is_comparison(one, other, certificate, unnumbered=unnumbered))

    def moved_apart(self, one, other, length):
        for first, second in ((one, other), (other, one)):
            for unnumbered in (True, False):
                certificate = compare(first, second, unnumbered=unnumbered).certificate
                self.assertEqual((certificate[0], len(certificate[2])), ("parted", length))
                self.assertTrue(is_comparison(first, second, certificate, unnumbered=unnumbered))

    def test_sums_that_agree_by_chance_beside_others_that_both_have(self):
        # Both add 4, 2 and 1 behind a 0, and then 2, or 1 and 1; moving the 4, or the 0, does not help.
        for between in ("0 < x and x < before and before < low", "x < 0 and before < x and low < before"):
            lines = ("keep low", "flag seen", "sum total", "total += x if x == x")
            ends = ("low = x if low is nothing and x == x and seen", "set seen if x == 0", "answer all = total")
            one = Program.of(*lines, f"total += before if {between}", *ends)
            other = Program.of(*lines, *(2 * [f"total += x if {between}"]), *ends)
            self.moved_apart(one, other, 4)

    def test_sums_that_agree_by_chance_with_other_numbers(self):
        # One adds 6, or -6, and the other 4 and 2, or -4 and -2.
        for less, sign in itertools.product(("<", ">"), ("+=", "-=")):
            lines = ("keep high", "keep mid", "keep low", "sum total")
            ends = (f"high = x if high is nothing and mid {less} x", f"mid = x if mid is nothing and low {less} x",
                    f"low = x if low is nothing and 0 {less} x", "answer all = total")
            behind = "if x == 0 and not high is nothing"
            one = Program.of(*lines, f"total {sign} high {behind}", *ends)
            other = Program.of(*lines, f"total {sign} mid {behind}", f"total {sign} low {behind}", *ends)
            self.moved_apart(one, other, 4)

    def test_sums_that_became_unnumbered_have_their_parts_for_themselves(self):
        one = Program.of("sum total", "total += x", "answer all = total")
        other = Program.of("sum total", "total += before if x != x and not before is nothing", "total += x",
                           "answer all = total")
        series = Series.read("5 ?a")
        self.assertNotEqual(run(one, series).parts, run(other, series).parts)
        self.assertTrue(compare(one, other))

    def test_told_on_both_sides_hides_sums(self):
        lines = ("sum total", "flag bad", "place at", "set bad", "at = here")
        one = Program.of(*lines, "total += x", "answer a = told at if bad else total")
        other = Program.of(*lines, "total -= x", "answer a = told at if bad else total")
        self.assertTrue(compare(one, other))
        self.assertEqual(len(compare(one, Program.of(*lines, "answer a = told if bad else total"))), 1)

    def test_too_many(self):
        # As many situations as the run and the plain run of the second one have.
        lines = ("keep low = 0", "keep mid", "sum total")
        statements = ("total += x", "mid = low", "low = x")
        one = Program.of("flag bad", *lines, *statements, "set bad if x != x", "answer a = 0")
        other = Program.of(*lines, "steps drop", *statements, "answer a = 0")
        self.assertEqual(len(compare(one, other).certificate[1]), 150)
        none = Program.of("answer a = 0")
        more = Program.of("keep low", "keep high = 0", "steps shift", "high = max(x, low) if x != x or before is nothing",
                          "low = 0 if x <= 0", "answer a = 0")
        self.assertEqual(len(AskedToCompare(more, none, True).explored(151)[1]), 151)
        with self.assertRaises(TooMany):
            compare(more, none)
        more = Program.of("keep low", "keep high", "steps shift", "high = low", "low = before", "answer a = 0")
        for unnumbered in (True, False):
            self.assertEqual(AskedToCompare(one, more, unnumbered).explored(150), ("many",))
            with self.assertRaises(TooMany) as caught:
                compare(one, more, unnumbered=unnumbered)
            self.assertEqual(caught.exception.what, "situations")

    def test_parted_goes_ahead_of_too_many(self):
        lines = ("keep low", "keep high", "flag one", "flag two", "steps hold, shift, shift", "low = before", "high = low",
                 "low = max(low, x)")
        ends = ("set two if one", "set one", "answer a = many")
        one = Program.of("count many", *lines, "many += 1 if two", *ends)
        other = Program.of("count many", *lines, *ends)
        with self.assertRaises(TooMany):
            compare(other, other)
        self.assertEqual(len(compare(one, other)), 3)


class Comparisons(unittest.TestCase):
    rows = compare(LESS, LESS).certificate[1]
    for_numbers = compare(LESS, TURNED, unnumbered=False).certificate[1]

    def test_no_certificates(self):
        for thing in NOTHINGS:
            for unnumbered in (True, False):
                self.assertIs(is_comparison(LESS, TURNED, thing, unnumbered=unnumbered), False, thing)

    def test_alike(self):
        self.assertIs(is_comparison(LESS, LESS, ("alike", self.rows)), True)
        self.assertTrue(is_comparison(LESS, LESS, ("alike", (*self.rows[::-1], *series("6 ?a 4", "?a ?a")))))
        for at in range(len(self.rows)):
            self.assertFalse(is_comparison(LESS, LESS, ("alike", self.rows[:at] + self.rows[at + 1:])))
        for thing in (["alike", self.rows], ("alike", list(self.rows)), ("alike", self.rows, 0), ("fits", self.rows),
                      ("as wished", self.rows), ("alike", ()), ("alike", None), ("alike", Series(())),
                      ("alike", (*self.rows, 0)), ("alike", (*self.rows, *series("1"))),
                      ("alike", (*self.rows, Series(250 * [0])))):
            self.assertIs(is_comparison(LESS, LESS, thing), False, thing)
        self.assertTrue(is_comparison(LESS, LESS, ("alike", (*self.rows, Series(249 * [0])))))
        self.assertFalse(is_comparison(LESS, TURNED, ("alike", self.rows)))

    def test_for_numbers(self):
        self.assertIs(is_comparison(LESS, TURNED, ("alike", self.for_numbers), unnumbered=False), True)
        self.assertFalse(is_comparison(LESS, TURNED, ("alike", self.for_numbers)))
        self.assertFalse(is_comparison(LESS, LESS, ("alike", self.for_numbers)))
        self.assertTrue(is_comparison(LESS, LESS, ("alike", self.for_numbers), unnumbered=False))
        self.assertFalse(is_comparison(LESS, LESS, ("alike", (*self.for_numbers, *series("?a"))), unnumbered=False))
        self.assertFalse(is_comparison(LESS, LESS, ("alike", self.rows), unnumbered=False))

    def test_parted(self):
        for text, expected in (("5 ?a", True), ("?a 5", True), ("5", False), ("", False), ("?a", False), ("?a ?a", False),
                               ("?a ?b", True), ("5 6 7 ?a", True), ("5 ?a 4", False)):
            thing = ("parted", "least", Series.read(text))
            self.assertIs(is_comparison(LESS, TURNED, thing), expected, text)
            self.assertIs(is_comparison(LESS, TURNED, thing, unnumbered=False), False, text)
        parted = Series.read("5 ?a")
        for thing in (["parted", "least", parted], ("broken", "least", parted), ("parted", "low", parted),
                      ("parted", None, parted), ("parted", A, parted), ("parted", ["least"], parted),
                      ("parted", "least", parted, None), ("parted", "least", "5 ?a"), ("parted", "least", (5, A)),
                      ("parted", "least"), ("parted", parted, "least")):
            self.assertIs(is_comparison(LESS, TURNED, thing), False, thing)
        thing = ("parted", "least", Series.read("5 4"))
        self.assertTrue(is_comparison(LESS, low("low = x"), ("parted", "least", Series.read("5 6")), unnumbered=False))
        self.assertFalse(is_comparison(LESS, low("low = x"), thing, unnumbered=False))

    def test_parted_asks_for_results_that_do_not_agree(self):
        one = Program.of("sum total", "total += x", "answer all = total")
        other = Program.of("sum total", "total += x", "total += x", "answer all = total")
        for text, expected in (("5", True), ("5 -5", False), ("0", False), ("5 -5 2", True), ("?a", False)):
            self.assertEqual(is_comparison(one, other, ("parted", "all", Series.read(text))), expected, text)
        self.assertFalse(is_comparison(one, other, ("alike", series("", "?a", "5 -5"))))


LINES = (
    "low = x if low is nothing or x < low", "low = x if low is nothing or not low <= x",
    "low = x if low is nothing or not x >= low", "low = min(x, low)", "low = min(low, x)", "low = max(x, before)", "low = before",
    "low = x if x == x", "low = x if not x != x", "low = x if x is nothing or x == x or x in (low)",
)


class AllShortSeries(unittest.TestCase):
    def hold(self, one, other, unnumbered, lengths):
        asked = AskedToCompare(one, other, unnumbered)
        try:
            certificate = compare(one, other, unnumbered=unnumbered).certificate
        except TooMany:
            self.assertEqual(asked.explored(150), ("many",))
            return "many"
        self.assertTrue(is_comparison(one, other, certificate, unnumbered=unnumbered))
        check(self, asked, certificate, lengths, ("alike", "parted"))
        return certificate[0]

    def test_statements(self):
        found = [
            self.hold(low(one), low(other), unnumbered, [0, 1, 2])
            for one, other in itertools.combinations(LINES, 2) for unnumbered in (True, False)
        ]
        self.assertEqual({word: found.count(word) > 5 for word in found}, {"alike": True, "parted": True})

    def test_steps(self):
        steps = ("drop", "fill", "hold", "drop, drop", "drop, fill", "fill, drop", "hold, drop", "hold, fill", "fill, shift")
        found = [
            self.hold(low(f"steps {one}", LINES[0]), low(f"steps {other}", LINES[0]), unnumbered, [0, 1, 2])
            for one, other in itertools.combinations(steps, 2) for unnumbered in (True, False)
        ]
        self.assertEqual({word: found.count(word) > 5 for word in found}, {"alike": True, "parted": True})

    def test_sums(self):
        lines = (("total += x",), ("total += x if x == x", "total += x if x != x"), ("total += x", "total += 0"),
                 ("total -= x", "total += x", "total += x"), ("total += min(x, 0)", "total += max(x, 0)"),
                 ("total += min(0, x)", "total += max(0, x)"), ("skip if total != total", "total += x"))
        for one, other in itertools.combinations(lines, 2):
            for unnumbered in (True, False):
                self.hold(Program.of("sum total", *one, "answer all = total"),
                          Program.of("sum total", *other, "answer all = total"), unnumbered, [0, 1, 2, 3])


if __name__ == "__main__":
    unittest.main()
