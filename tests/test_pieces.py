"""Pieces: merges, merged registers, cut series and their certificates (points 27 to 30, and 3)."""

import itertools
import unittest

from tests.brute import AskedToCut, check
from unnumbered.errors import BadMerge, BadSeries, TooMany
from unnumbered.judging import Verdict
from unnumbered.pieces import Merge, is_cutting, merged, pieces
from unnumbered.programs import Program
from unnumbered.running import Outcome, run
from unnumbered.series import Series
from unnumbered.values import Told, Unnumbered

A = Unnumbered("a")
EVERYTHING = Program.of(
    "keep low", "keep high = 0", "flag bad", "flag odd", "sum total", "sum rest", "count many", "place at", "place to",
    "answer one = 0",
)
NOTHINGS = (None, True, False, 0, "", "fits", [], (), A, Told(None), Series(()), (1,), (None, None), (A, A), (A, A, A),
            [["fits"], [Series(())]], (Series(()), None), 4 * (0,), 4 * (A,), ("parted", None, None, None))
LEAST = Program.of("keep low", "sum total", "low = x if x == x and (low is nothing or x < low)", "total += x",
                   "answer least = low", "answer all = total")
LESSER = Merge(LEAST, "low = LOW if low is nothing or LOW < low")


def series(*texts):
    return tuple(Series.read(text) for text in texts)


def shown(value):
    return str(value) if isinstance(value, Unnumbered) else value


class ReadMerges(unittest.TestCase):
    def test_lines_as_written(self):
        lines = (
            ("low = LOW", None), ("low = low", None), ("low = min(low, max(LOW, 0))", None), ("low = nothing", None),
            ("low = 0 if HIGH < low and not BAD or odd", None), ("at = AT", None), ("at = to", None), ("at = TO if bad", None),
            ("set bad", None), ("set bad if BAD", None), ("set odd if TOTAL == TOTAL or rest != rest", None),
            ("low = HIGH if LOW is nothing", None), ("low = HIGH if LOW in (low, 0, nothing)", None),
            ("low=LOW", "low = LOW"), ("  low =min( LOW,low )if( BAD )", "low = min(LOW, low) if (BAD)"),
            ("set  bad  if not   BAD", "set bad if not BAD"),
        )
        for line, written in lines:
            merge = Merge(EVERYTHING, line)
            self.assertEqual((str(merge), len(merge)), (written or line, 1))
        merge = Merge(EVERYTHING, "\n".join(line for line, _ in lines[:8]))
        self.assertEqual((str(merge), len(merge)), ("\n".join(written or line for line, written in lines[:8]), 8))
        self.assertEqual(str(Merge(EVERYTHING, str(merge))), str(merge))

    def test_empty_text(self):
        merge = Merge(EVERYTHING, "")
        self.assertEqual((str(merge), len(merge)), ("", 0))

    def wrong_line(self, text, program=EVERYTHING):
        with self.assertRaises(BadMerge) as caught:
            Merge(program, text)
        return caught.exception.line

    def test_no_strings(self):
        for thing in (None, True, 0, ["low = LOW"], (), A, Series(()), EVERYTHING):
            self.assertEqual(self.wrong_line(thing), -1)

    def test_wrong_lines(self):
        for line in (
            " ", "low", "low =", "LOW = low", "Low = low", "low = Low", "low = loW", "low = x", "low = X", "low = before",
            "low = BEFORE", "low = min(x, low)", "at = here", "at = HERE", "AT = at", "at = low", "low = at", "low = bad",
            "set BAD", "set low", "SET bad", "set bad IF odd", "set bad if x == 0", "set bad if here", "set bad if x != x",
            "total += LOW", "total += low", "total -= 0", "many += 1", "skip", "leave", "total = TOTAL", "many = MANY",
            "low = LOW if", "low = LOW if if", "low = LOW LOW", "low = LOW if TOTAL == total", "low = LOW if total < total",
            "low = LOW if total", "low = LOW if MANY", "low = LOW if many", "low = LOW if AT", "low = NOTHING", "low = 1",
            "low = MIN(low, LOW)", "low = LOW if NOT bad", "low = LOW if BAD AND odd", "keep low", "answer one = 0",
            "low = other", "low = OTHER", "low = LOW?", "low == LOW", "steps drop", "low = LOW; low = low", "bad = BAD",
            "low = LOW if x", "low = LOW if low in ()", "low = LOW\t", "low = L\u00d6W",
        ):
            self.assertEqual(self.wrong_line(line), 0, line)

    def test_the_first_wrong_line(self):
        self.assertEqual(self.wrong_line("low = LOW\n"), 1)
        self.assertEqual(self.wrong_line("\n"), 0)
        self.assertEqual(self.wrong_line("\nlow = LOW"), 0)
        self.assertEqual(self.wrong_line("low = LOW\n  \nlow = x"), 1)
        self.assertEqual(self.wrong_line("low = LOW\nset bad\nlow = x\nskip"), 2)
        self.assertEqual(self.wrong_line("low = LOW", Program.of("answer one = 0")), 0)

    def test_at_most_eight_lines(self):
        self.assertEqual(len(Merge(EVERYTHING, "\n".join(8 * ["low = LOW"]))), 8)
        with self.assertRaises(TooMany) as caught:
            Merge(EVERYTHING, "\n".join(9 * ["low = LOW"]))
        self.assertEqual(caught.exception.what, "lines")
        self.assertEqual(self.wrong_line("\n".join(9 * ["low = LOW"] + ["low = x"])), 9)

    def test_long_and_deep_lines(self):
        line = "low = " + 25 * "min(" + "LOW" + 25 * ", low)" + " if " + 25 * "not " + "BAD"
        self.assertEqual(str(Merge(EVERYTHING, line)), line)


class Merged(unittest.TestCase):
    program = Program.of(
        "keep low", "keep high = 0", "flag bad", "flag odd", "sum total", "sum rest", "count many", "place at", "place to",
        "low = x if x == x", "high = before if x == x", "set bad if x != x", "set odd if x == 0", "total += x if x == x",
        "rest += x", "many += 1", "at = here if x == x", "to = at if x != x",
        "answer one = low", "answer two = total by many", "answer three = told to if bad else rest", "answer four = at",
    )

    def merged(self, lines, one, other, program=None):
        program = program or self.program
        return merged(program, Merge(program, lines), *series(one, other))

    def test_without_lines(self):
        outcome = self.merged("", "5 6", "7 ?a 0")
        self.assertIs(type(outcome), Outcome)
        self.assertEqual((outcome.keeps, outcome.flags, outcome.counts, outcome.places),
                         ({"low": 6, "high": 5}, {"bad": False, "odd": False}, {"many": 5}, {"at": 1, "to": None}))
        self.assertEqual((outcome.sums["total"], str(outcome.sums["rest"])), (18, "?a"))
        self.assertEqual(outcome.parts, {"total": {5: 1, 6: 1, 7: 1}, "rest": {5: 1, 6: 1, 7: 1}})
        self.assertEqual((outcome.held, outcome.is_left), ((6, 5), False))
        self.assertEqual((outcome.answers["one"], outcome.answers["two"], outcome.answers["four"]), (6, (18, 5), 1))
        self.assertEqual(list(outcome.answers), ["one", "two", "three", "four"])
        self.assertEqual(str(outcome.answers["three"]), "?a")

    def test_capitals_mean_the_second_piece(self):
        outcome = self.merged("low = LOW\nhigh = HIGH\nset bad if BAD\nset odd if ODD\nat = AT\nto = TO", "5 6", "7 ?a 0")
        self.assertEqual((outcome.flags, outcome.places), ({"bad": True, "odd": True}, {"at": 4, "to": 2}))
        self.assertEqual((outcome.keeps["low"], shown(outcome.keeps["high"])), (0, "?a"))
        self.assertEqual(outcome.answers["three"], Told(2))
        self.assertEqual([shown(value) for value in outcome.held], [0, "?a"])

    def test_places_of_the_second_piece_are_those_in_the_whole(self):
        for text in ("", "5", "5 6 ?a"):
            self.assertEqual(self.merged("at = AT", text, "7").places["at"], len(text.split()))
        self.assertEqual(self.merged("at = AT", "5", "").places["at"], None)

    def test_lines_from_top_to_bottom_change_the_first_piece_alone(self):
        outcome = self.merged("low = LOW\nlow = 0 if low == LOW\nhigh = low", "5", "7")
        self.assertEqual(outcome.keeps, {"low": 0, "high": 0})
        outcome = self.merged("low = nothing\nhigh = LOW\nset bad if low is nothing\nset odd if bad and not BAD", "5", "7")
        self.assertEqual((outcome.keeps, outcome.flags), ({"low": None, "high": 7}, {"bad": True, "odd": True}))
        outcome = self.merged("at = TO\nto = AT\nat = to", "5 ?a", "7 ?b 8")
        self.assertEqual(outcome.places, {"at": 4, "to": 4})

    def test_tests_on_sums_see_those_of_the_pieces(self):
        lines = "set bad if rest == rest\nset odd if REST == REST"
        for one, other, bad, odd in (("5", "6", True, True), ("5", "?a", True, False), ("?a", "5", True, True),
                                     ("?a", "?a", True, False)):
            self.assertEqual(self.merged(lines, one, other).flags["odd"], odd, (one, other))
        program = Program.of("flag bad", "flag odd", "sum total", "total += x", "answer one = bad", "answer two = odd")
        lines = "set bad if total != total\nset odd if TOTAL != TOTAL"
        for one, other, expected in (("5", "6", [False, False]), ("5", "?a", [False, True]), ("?a", "5", [True, False])):
            self.assertEqual(list(self.merged(lines, one, other, program).answers.values()), expected)

    def test_sums_and_parts(self):
        for one, other, total, parts in (
            ("5 ?a 6", "7 ?b", "?a", {5: 1}), ("5", "7 ?b 8", "?b", {5: 1, 7: 1}), ("5 -5", "5", 5, {5: 2, -5: 1}),
            ("", "5", 5, {5: 1}), ("5", "", 5, {5: 1}), ("", "", 0, {}), ("?a", "?b", "?a", {}), ("0", "0", 0, {}),
        ):
            outcome = self.merged("", one, other)
            self.assertEqual((shown(outcome.sums["rest"]), outcome.parts["rest"]), (total, parts), (one, other))
        program = Program.of("sum total", "total += x if x > 0", "total -= before if x < 0", "answer one = total")
        outcome = self.merged("", "5", "6 -1 7", program)
        self.assertEqual((outcome.answers, outcome.parts), ({"one": 12}, {"total": {5: 1, 7: 1}}))
        program = Program.of("sum total", "keep low", "total += x if low is nothing", "low = 0 if x == x", "total -= x",
                             "answer one = total")
        self.assertEqual(self.merged("", "5 7", "7", program).parts, {"total": {7: -1}})

    def test_sums_that_became_nothing(self):
        program = Program.of("sum total", "steps shift", "total += x", "answer one = total")
        for one, other, total in (("5", "6", None), ("", "5", None), ("5", "", None), ("", "", 0)):
            self.assertEqual(self.merged("", one, other, program).answers["one"], total)
        program = Program.of("sum total", "total += x", "total += nothing if x == 0", "answer one = total")
        for one, other, total in (("0", "?a", None), ("?a", "0", "?a"), ("5", "0", None), ("0", "5", None)):
            self.assertEqual(shown(self.merged("", one, other, program).answers["one"]), total, (one, other))

    def test_left(self):
        program = Program.of("count many", "many += 1", "leave if x == 0", "answer one = many")
        for one, other, left, many in (("5 0 6", "7", True, 3), ("5", "0 7 8", False, 2), ("", "0", False, 1)):
            outcome = self.merged("", one, other, program)
            self.assertEqual((outcome.is_left, outcome.counts["many"], outcome.held), (left, many, ()))

    def test_steps_start_again_in_the_second_piece(self):
        program = Program.of("keep low", "steps hold, shift", "low = x", "answer one = low")
        outcome = self.merged("low = LOW", "5 6", "?a 7", program)
        self.assertEqual([shown(value) for value in outcome.held], ["?a"])

    def test_too_long(self):
        merge = Merge(self.program, "")
        self.assertEqual(merged(self.program, merge, Series(125 * [1]), Series(125 * [2])).counts, {"many": 250})
        with self.assertRaises(BadSeries) as caught:
            merged(self.program, merge, Series(125 * [1]), Series(126 * [2]))
        self.assertEqual(caught.exception.at, -1)

    def test_changing_an_outcome_changes_this_one_alone(self):
        outcome = self.merged("", "5", "6")
        outcome.parts["rest"].clear()
        outcome.keeps.clear()
        self.assertEqual(self.merged("", "5", "6").parts["rest"], {5: 1, 6: 1})
        self.assertEqual(self.merged("", "5", "6").keeps, {"low": 5, "high": None})


class Pieces(unittest.TestCase):
    def test_example_of_the_text(self):
        lines = ("keep low", "sum total", "low = x if low is nothing or x < low", "total += x", "answer least = low",
                 "answer all = total")
        program = Program.of(*lines)
        merge = Merge(program, "low = min(low, LOW)")
        self.assertTrue(is_cutting(program, merge, ("parted", "least", Series.of(0), 0)))
        verdict = pieces(program, merge)
        self.assertIs(type(verdict), Verdict)
        self.assertEqual((bool(verdict), len(verdict), verdict.certificate[:2]), (False, 1, ("parted", "least")))
        merge = Merge(program, "low = LOW if low is nothing or LOW < low")
        self.assertTrue(is_cutting(program, merge, ("parted", "least", Series.read("0 ?a -2"), 1)))
        verdict = pieces(program, merge)
        self.assertEqual((bool(verdict), len(verdict), len(verdict.certificate)), (False, 3, 4))
        self.assertTrue(is_cutting(program, merge, verdict.certificate))
        verdict = pieces(LEAST, LESSER)
        self.assertEqual((bool(verdict), len(verdict), verdict.certificate[0]), (True, 0, "fits"))
        self.assertTrue(is_cutting(LEAST, LESSER, verdict.certificate))
        check(self, AskedToCut(LEAST, LESSER), verdict.certificate, [0, 1, 2, 3], ("fits", "parted"))

    def test_without_entries(self):
        program = Program.of("keep low", "low = x", "answer one = low")
        verdict = pieces(program, Merge(program, "low = 0"))
        self.assertEqual((verdict.certificate, len(verdict)), (("parted", "one", Series(()), 0), 0))

    def test_counts_and_sums_fit_by_themselves(self):
        program = Program.of("count many", "sum total", "many += 1", "total += x", "answer mean = total by many")
        verdict = pieces(program, Merge(program, ""))
        self.assertTrue(verdict)
        self.assertEqual([row[0] for row in verdict.certificate[1] if row[1] is None][0], Series(()))
        program = Program.of("count many", "flag bad", "many += 1 if bad", "set bad", "answer one = many")
        self.assertEqual(len(pieces(program, Merge(program, "set bad if BAD"))), 2)

    def test_flags_and_places(self):
        program = Program.of("flag bad", "place at", "at = here if x != x and not bad", "set bad if x != x",
                             "answer one = told at if bad else 0")
        self.assertTrue(pieces(program, Merge(program, "at = AT if not bad\nset bad if BAD")))
        self.assertFalse(pieces(program, Merge(program, "set bad if BAD\nat = AT if not bad")))
        self.assertFalse(pieces(program, Merge(program, "at = AT\nset bad if BAD")))

    def test_sums_that_agree_by_chance_are_moved_apart(self):
        # With 2 ahead of the cut and 1 behind it, the whole run adds 2 - 1 for the latter, the second piece 1.
        for between in ("0 < x and x < low", "x < 0 and low < x"):
            program = Program.of("keep low", "sum total", f"total += low if {between}", f"total -= x if {between}",
                                 f"total += x if not ({between})", "low = x if low is nothing", "answer all = total")
            merge = Merge(program, "low = LOW if low is nothing")
            certificate = pieces(program, merge).certificate
            self.assertEqual((certificate[0], len(certificate[2])), ("parted", 2))
            self.assertTrue(is_cutting(program, merge, certificate))
            one, other = Series(certificate[2].entries[:1]), Series(certificate[2].entries[1:])
            self.assertNotEqual(run(program, certificate[2]).answers, merged(program, merge, one, other).answers)
            check(self, AskedToCut(program, merge), certificate, [0, 1], ("fits", "parted"))

    def test_250_situations_are_not_too_many(self):
        program = Program.of("flag odd", "flag bad", "place to", "set bad", "skip if not before in (before, 0)",
                             "to = here if x in (0)", "set odd if x != x", "answer one = 0")
        self.assertEqual(len(pieces(program, Merge(program, "")).certificate[1]), 250)
        program = Program.of("keep mid = 0", "flag bad", "mid = min(x, nothing) if not min(before, mid) > x",
                             "answer one = told if bad else bad")
        asked = AskedToCut(program, Merge(program, ""))
        self.assertEqual((asked.explored(250), len(asked.explored(251)[1])), (("many",), 251))
        with self.assertRaises(TooMany) as caught:
            pieces(program, asked.merge)
        self.assertEqual(caught.exception.what, "situations")

    def test_parted_goes_ahead_of_too_many(self):
        # The cut series of at most three entries have more than 250 situations, those of at most two fewer.
        lines = ("keep low", "flag one", "flag two", "count many", "steps shift", "low = before", "many += 1 if two",
                 "set two if one", "set one")
        program = Program.of(*lines, "answer zero = 0")
        with self.assertRaises(TooMany):
            pieces(program, Merge(program, ""))
        program = Program.of(*lines, "answer zero = 0", "answer many = many")
        verdict = pieces(program, Merge(program, ""))
        self.assertEqual((len(verdict), verdict.certificate[1]), (3, "many"))
        check(self, AskedToCut(program, Merge(program, "")), verdict.certificate, [0, 1, 2], ("fits", "parted"))


class Cuttings(unittest.TestCase):
    rows = pieces(LEAST, LESSER).certificate[1]

    def is_closed(self, rows):
        return is_cutting(LEAST, LESSER, ("fits", rows))

    def test_no_certificates(self):
        for thing in NOTHINGS:
            self.assertIs(is_cutting(LEAST, LESSER, thing), False, thing)

    def test_form(self):
        self.assertIs(self.is_closed(self.rows), True)
        self.assertIs(self.is_closed(self.rows[::-1]), True)
        none = Series(())
        for rows in (list(self.rows), (), None, none, "", ((none, None),), (*self.rows, none), (*self.rows, None),
                     (*self.rows, (none,)), (*self.rows, (none, None, None)), (*self.rows, [none, None]),
                     (*self.rows, (none, True)), (*self.rows, (none, False)), (*self.rows, (none, 1)),
                     (*self.rows, (none, -1)), (*self.rows, (none, "0")), (*self.rows, (none, A)), (*self.rows, ("", 0)),
                     (*self.rows, (Series.of(2), True)), (*self.rows, (Series.of(2), 2))):
            self.assertIs(self.is_closed(rows), False, rows)
        for thing in (["fits", self.rows], ("fits", self.rows, 0), ("alike", self.rows), ("as wished", self.rows),
                      ("parted", self.rows)):
            self.assertIs(is_cutting(LEAST, LESSER, thing), False)

    def test_more_rows(self):
        more = tuple((row, cut) for row in series("5 ?a 2 -4", "?b 7 ?a") for cut in (None, 0, 1, 2, 3))
        self.assertTrue(self.is_closed((*self.rows, *more)))
        self.assertTrue(self.is_closed((*self.rows, (Series(249 * [0]), 100))))
        self.assertFalse(self.is_closed((*self.rows, (Series(250 * [0]), 100))))
        self.assertFalse(self.is_closed((*self.rows, (Series.of(1), None))))
        self.assertFalse(self.is_closed((*self.rows, (Series.of(1), 1))))
        self.assertFalse(self.is_closed((*self.rows, *((row, 1) for row in series("5 4")))))

    def test_each_row_is_needed(self):
        for at in range(len(self.rows)):
            self.assertFalse(self.is_closed(self.rows[:at] + self.rows[at + 1:]), at)

    def test_uncut_and_cut_rows(self):
        program = Program.of("sum total", "total += x if x == x", "answer all = total")
        merge = Merge(program, "")
        empty = Series(())
        self.assertTrue(is_cutting(program, merge, ("fits", ((empty, None), (empty, 0)))))
        self.assertTrue(is_cutting(program, merge, ("fits", ((empty, None), (Series.read("5 ?a"), 1)))))
        for rows in (((empty, None),), ((empty, 0),), ((Series.of(5), None), (empty, 0))):
            self.assertFalse(is_cutting(program, merge, ("fits", rows)))

    def test_rows_that_do_not_fit(self):
        program = Program.of("count many", "flag bad", "many += 1 if bad", "set bad", "answer one = many")
        merge = Merge(program, "set bad if BAD")
        cuts = tuple((row, cut) for row in series("", "0") for cut in (None, *range(len(row) + 1)))
        self.assertFalse(is_cutting(program, merge, ("fits", cuts)))

    def test_parted(self):
        program = Program.of("keep low", "count many", "low = x", "many += 1", "answer one = low", "answer two = many")
        merge = Merge(program, "")
        for text, cut, expected in (("5", 0, True), ("5", 1, False), ("5 6", 1, True), ("5 5", 1, False), ("5 6", 2, False),
                                    ("5 ?a", 1, True), ("?a ?a", 1, False), ("?a ?a", 0, True), ("", 0, False),
                                    ("5 6 7", 1, True)):
            thing = ("parted", "one", Series.read(text), cut)
            self.assertIs(is_cutting(program, merge, thing), expected, (text, cut))
            self.assertIs(is_cutting(program, merge, ("parted", "two", Series.read(text), cut)), False)
        parted = Series.read("5 6")
        self.assertTrue(is_cutting(program, merge, ("parted", "one", parted, 1)))
        for thing in (["parted", "one", parted, 1], ("broken", "one", parted, 1), ("parted", "one", parted),
                      ("parted", "one", parted, True), ("parted", "one", parted, False), ("parted", "one", parted, None),
                      ("parted", "one", parted, -1), ("parted", "one", parted, 3), ("parted", "one", parted, "1"),
                      ("parted", "low", parted, 1), ("parted", None, parted, 1), ("parted", ["one"], parted, 1),
                      ("parted", A, parted, 1), ("parted", "one", (5, 6), 1), ("parted", "one", parted, 1, 1),
                      ("parted", "one", parted, A), ("parted", "one", (parted, 1), 1)):
            self.assertIs(is_cutting(program, merge, thing), False, thing)

    def test_parted_asks_for_results_that_do_not_agree(self):
        program = Program.of("sum total", "total += x", "total += before if not before is nothing", "answer all = total")
        merge = Merge(program, "")
        for text, expected in (("5 6", True), ("0 6", False), ("?a 6", False)):
            self.assertEqual(is_cutting(program, merge, ("parted", "all", Series.read(text), 1)), expected, text)


class AllShortSeries(unittest.TestCase):
    def hold(self, program, text, lengths):
        merge = Merge(program, text)
        asked = AskedToCut(program, merge)
        try:
            certificate = pieces(program, merge).certificate
        except TooMany:
            self.assertEqual(asked.explored(250), ("many",))
            return "many"
        self.assertTrue(is_cutting(program, merge, certificate))
        check(self, asked, certificate, lengths, ("fits", "parted"))
        return certificate[0]

    def test_least_values(self):
        statements = ("low = x if low is nothing or x < low", "low = min(low, x)", "low = x", "low = x if low is nothing",
                      "low = x if x == x and (low is nothing or x < low)", "low = x if x == x")
        merges = ("", "low = LOW", "low = LOW if low is nothing or LOW < low", "low = LOW if not LOW is nothing",
                  "low = LOW if low is nothing", "low = min(low, LOW)", "low = LOW if low is nothing\nlow = min(LOW, low)")
        found = {
            (statement, merge): self.hold(Program.of("keep low", statement, "answer one = low"), merge, [0, 1, 2])
            for statement, merge in itertools.product(statements, merges)
        }
        self.assertEqual(found["low = x", "low = LOW if not LOW is nothing"], "fits")
        self.assertEqual(found["low = x if low is nothing", "low = LOW if low is nothing"], "fits")
        self.assertEqual(found["low = min(low, x)", ""], "fits")
        self.assertEqual(found["low = x if x == x", "low = LOW"], "parted")
        self.assertEqual({word: list(found.values()).count(word) > 5 for word in ("fits", "parted")},
                         {"fits": True, "parted": True})

    def test_steps(self):
        for steps in ("drop", "fill", "hold", "shift", "hold, drop", "drop, fill"):
            program = Program.of("keep low", "sum total", f"steps {steps}", "low = x if not x is nothing", "total += x",
                                 "answer one = low", "answer two = total")
            expected = "fits" if steps in ("drop", "fill", "drop, fill") else "parted"
            found = self.hold(program, "low = LOW if not LOW is nothing", [0, 1, 2])
            self.assertEqual(found, expected, steps)

    def test_leave_and_places(self):
        program = Program.of("place at", "flag bad", "at = here", "set bad if x == 0", "leave if x == 0", "answer one = at")
        found = [self.hold(program, merge, [0, 1, 2]) for merge in (
            "", "at = AT if not bad", "at = AT", "at = AT if not bad\nset bad if BAD", "at = AT if BAD and not bad")]
        self.assertEqual(found, 5 * ["parted"])
        program = Program.of("place at", "flag any", "flag bad", "at = here", "set any", "set bad if x == 0", "leave if x == 0",
                             "answer one = at", "answer two = bad")
        merge = "at = AT if ANY and not bad\nset any if ANY\nset bad if BAD"
        self.assertEqual(self.hold(program, merge, [0, 1, 2, 3]), "fits")
        self.assertEqual(self.hold(program, "at = AT if ANY and not bad\nset any if ANY", [0, 1, 2]), "parted")

    def test_sums(self):
        for line, expected in (("total += x", "fits"), ("total -= x if x < 0", "fits"), ("total += before", "fits"),
                               ("total += max(x, before)", "parted"), ("total += x if total == total", "fits")):
            program = Program.of("sum total", "count many", line, "many += 1", "answer one = total by many")
            self.assertEqual(self.hold(program, "", [0, 1, 2]), expected, line)


if __name__ == "__main__":
    unittest.main()
