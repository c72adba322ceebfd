"""Judging: wishes, situations, certificates and how they are found (points 18 to 25, and 3)."""

import itertools
import unittest

from tests.brute import AskedToJudge, check, key
from unnumbered.errors import BadWish, TooMany
from unnumbered.judging import (
    Verdict, Wish, is_judgement, is_wished, judge, same_situation, wishes,
)
from unnumbered.programs import Program
from unnumbered.running import run
from unnumbered.series import Series
from unnumbered.values import Told, Unnumbered

A = Unnumbered("a")
ALL = ("skip", "spoil", "tell", "first", "last")
WRONG = ("", "Skip", "skip ", "none", None, True, 0, ["skip"], ("skip",), A, Told(1), Series(()))
SKIPS_LEAST = Program.of("keep low", "low = x if x == x and low is nothing", "low = min(low, x)", "answer least = low")
SKIP = {"least": "skip"}
NOTHINGS = (None, True, False, 0, -1, "", "as wished", "broken", [], (), A, Told(None), Series(()), SKIPS_LEAST,
            (1,), (None, None), [["as wished"], [Series(())]], (A, A), (Series(()), Series(())), (A, A, A), 4 * (0,))


def series(*texts):
    return tuple(Series.read(text) for text in texts)


class Wishes(unittest.TestCase):
    def test_texts(self):
        self.assertEqual((Wish.SKIP, Wish.SPOIL, Wish.TELL, Wish.FIRST, Wish.LAST), ALL)

    def test_dict(self):
        self.assertEqual(wishes(), {})
        found = wishes(one="skip", self="spoil", named="tell", program="first", four="last")
        self.assertEqual(found, {"one": "skip", "self": "spoil", "named": "tell", "program": "first", "four": "last"})
        found["one"] = "none"
        self.assertEqual(wishes(one=Wish.SKIP), {"one": "skip"})

    def test_wrong_wishes(self):
        for wrong in WRONG:
            with self.assertRaises(BadWish) as caught:
                wishes(one=wrong)
            self.assertEqual(caught.exception.name, "one")

    def test_first_name_in_ascending_order(self):
        with self.assertRaises(BadWish) as caught:
            wishes(two="none", three="skip", one=None, four="tell", six=1)
        self.assertEqual(caught.exception.name, "one")

    def test_all_that_take_wishes_check_them_first(self):
        program = Program.of("sum total", "total += x", "answer one = total", "answer two = 0")
        calls = (
            lambda wanted: is_wished(program, wanted, Series(())),
            lambda wanted: same_situation(program, wanted, Series(()), Series(())),
            lambda wanted: judge(program, wanted),
            lambda wanted: is_judgement(program, wanted, None),
        )
        for call in calls:
            for wrong in WRONG:
                with self.assertRaises(BadWish) as caught:
                    call({"two": "skip", "one": wrong})
                self.assertEqual(caught.exception.name, "one")
            for wanted, name in (({"three": "skip"}, "three"), ({"two": "none", "total": "skip"}, "total"),
                                 ({"two": "none", "one": "skip"}, "two"), ({"": "skip", "one": "none"}, ""),
                                 ({"z": "skip", "two": "", "one": "tell"}, "two"), ({"One": "skip"}, "One")):
                with self.assertRaises(BadWish) as caught:
                    call(wanted)
                self.assertEqual(caught.exception.name, name)

    def test_bad_wish_ahead_of_too_many(self):
        with self.assertRaises(BadWish):
            judge(MANY, {"zero": "none"})


# Its two keeps, what its steps hold, and before: more than 150 situations.
MANY = Program.of("keep low", "keep high", "steps hold, shift, shift", "low = before", "high = low", "low = max(low, x)",
                  "answer zero = 0", "answer low = low")


# Adds the number before an unnumbered entry once more.
ADDS_AGAIN = Program.of("sum total", "total += x if x == x", "total += before if x != x and before == before",
                        "answer one = total")


class AsWished(unittest.TestCase):
    program = Program.of(
        "keep low", "flag bad", "sum total", "count many", "place at", "low = x if x == x", "at = here if x != x",
        "set bad if x != x", "total += x", "many += 1 if x == x", "answer value = low", "answer all = total",
        "answer mean = total by many", "answer tells = told at if bad else many",
    )

    def is_wished(self, name, wish, text, program=None):
        found = is_wished(program or self.program, {name: wish}, Series.read(text))
        self.assertEqual(list(found), [name])
        return found[name]

    def test_order_and_names(self):
        found = is_wished(self.program, {"tells": "tell", "value": "skip"}, Series.read("5 ?a"))
        self.assertEqual(list(found.items()), [("value", True), ("tells", True)])
        self.assertEqual(is_wished(self.program, {}, Series.read("5 ?a")), {})

    def test_skip(self):
        for text in ("", "5", "5 ?a", "?a 5 ?b -3"):
            self.assertTrue(self.is_wished("value", "skip", text))
        self.assertTrue(self.is_wished("all", "skip", "5 -3"))
        self.assertFalse(self.is_wished("all", "skip", "5 ?a"))
        self.assertFalse(self.is_wished("mean", "skip", "5 ?a"))
        self.assertFalse(self.is_wished("tells", "skip", "5 ?a"))
        self.assertTrue(self.is_wished("tells", "skip", "5 6"))

    def test_skip_is_not_told(self):
        program = Program.of("flag bad", "set bad", "answer one = told if bad else 0")
        self.assertTrue(self.is_wished("one", "skip", "", program))
        self.assertFalse(self.is_wished("one", "skip", "5", program))

    def test_spoil(self):
        for name in ("all", "mean"):
            for text, expected in (("", True), ("5 6", True), ("?a", True), ("5 ?a 6 ?b", True)):
                self.assertEqual(self.is_wished(name, "spoil", text), expected)
        self.assertTrue(self.is_wished("value", "spoil", "5"))
        for name in ("value", "tells"):
            self.assertFalse(self.is_wished(name, "spoil", "5 ?a"))

    def test_spoil_is_neither_nothing_nor_a_mean_with_nothing(self):
        program = Program.of("sum total", "count many", "steps shift", "total += x", "many += 1", "answer one = total",
                             "answer two = total by many", "answer three = nothing")
        for name in program.answers:
            self.assertFalse(self.is_wished(name, "spoil", "?a", program))
            self.assertTrue(self.is_wished(name, "spoil", "5", program))

    def test_tell(self):
        for text in ("", "5", "?a", "5 ?a 6"):
            self.assertTrue(self.is_wished("tells", "tell", text))
            self.assertEqual(self.is_wished("all", "tell", text), "?" not in text)
        program = Program.of("flag bad", "set bad", "answer one = told if bad else 0")
        self.assertFalse(self.is_wished("one", "tell", "5", program))
        self.assertTrue(self.is_wished("one", "tell", "?a", program))

    def test_first_and_last(self):
        for text, first, last in (("", True, True), ("5", True, True), ("?a", True, True), ("5 ?a 6", True, True),
                                  ("5 ?a 6 ?b", False, True), ("?a ?a", False, True)):
            self.assertEqual(self.is_wished("tells", "first", text), first, text)
            self.assertEqual(self.is_wished("tells", "last", text), last, text)
        program = Program.of("flag bad", "place at", "at = here if x != x and not bad", "set bad if x != x",
                             "answer one = told at if bad else at", "answer two = told if bad else 0")
        for text, first, last in (("5 ?a 6 ?b", True, False), ("?a 7", True, True), ("?a ?a", True, False)):
            self.assertEqual(self.is_wished("one", "first", text, program), first, text)
            self.assertEqual(self.is_wished("one", "last", text, program), last, text)
            self.assertFalse(self.is_wished("two", "first", text, program))
        program = Program.of("flag bad", "place at", "at = here", "set bad", "answer one = told at if bad else 0",
                             "answer two = at")
        for wish in ("first", "last"):
            self.assertFalse(self.is_wished("one", wish, "5", program))
            self.assertTrue(self.is_wished("one", wish, "?a", program))
            self.assertFalse(self.is_wished("two", wish, "?a", program))

    def test_sums_that_agree_but_not_surely_are_as_wished(self):
        self.assertTrue(self.is_wished("one", "skip", "5 ?a -5 ?a", ADDS_AGAIN))
        self.assertTrue(self.is_wished("one", "skip", "0 ?a 5", ADDS_AGAIN))
        self.assertFalse(self.is_wished("one", "skip", "5 ?a", ADDS_AGAIN))


class Situations(unittest.TestCase):
    def same(self, program, text, other, **wanted):
        found = same_situation(program, wanted, *series(text, other))
        self.assertEqual(same_situation(program, wanted, *series(other, text)), found)
        return found

    def test_order_of_held_values(self):
        program = Program.of("keep low", "keep high = 0", "low = before", "high = x", "answer one = low")
        for one, other, expected in (
            ("", "", True), ("5", "7", True), ("5", "-5", False), ("5", "0", False), ("-1", "-9", True),
            ("1 2", "5 70", True), ("1 2", "2 1", False), ("1 1", "5 5", True), ("1 1", "1 2", False),
            ("-1 2", "1 2", False), ("-1 2", "-7 1", True), ("0 1", "0 7", True), ("0 1", "1 7", False),
            ("9 1 2", "5 70", True), ("", "0", False), ("5", "5 5", False),
        ):
            self.assertEqual(self.same(program, one, other), expected, (one, other))

    def test_names(self):
        program = Program.of("keep low", "sum total", "low = x", "total += x", "answer one = low")
        for one, other, expected in (
            ("?a", "?b", True), ("?a ?b", "?b ?c", True), ("?a ?a", "?a ?b", False), ("?a 5", "?b 7", True),
            ("5 ?a", "?a", False), ("?a 5 ?a", "7 ?b", True), ("?a 5 ?b", "7 ?b", False), ("?a", "5", False),
            ("?a 5 ?b", "?b ?c 7 ?a", True), ("?a ?b ?a", "?b", True),
        ):
            self.assertEqual(self.same(program, one, other), expected, (one, other))

    def test_sums_count_by_their_kind_alone(self):
        program = Program.of("sum total", "sum rest", "total += x", "rest += x if x == x", "answer one = total")
        self.assertTrue(self.same(program, "5", "-5 7"))
        self.assertTrue(self.same(program, "", "7"))
        self.assertFalse(self.same(program, "7", "7 ?a"))
        program = Program.of("sum total", "steps shift", "total += x", "answer one = total")
        self.assertFalse(self.same(program, "", "5"))

    def test_counts_are_none_of_it(self):
        program = Program.of("count many", "many += 1", "answer one = many")
        self.assertTrue(self.same(program, "", "5 6 7"))

    def test_flags_and_leave(self):
        program = Program.of("flag bad", "set bad if x < 0", "answer one = bad")
        self.assertTrue(self.same(program, "", "5"))
        self.assertFalse(self.same(program, "", "-5"))
        program = Program.of("leave if x < 0", "answer one = 0")
        self.assertTrue(self.same(program, "", "5"))
        self.assertFalse(self.same(program, "", "-5"))

    def test_places(self):
        program = Program.of("place at", "place to", "at = here if x < 0", "to = here if x > 0", "at = to if x == 0",
                             "answer one = at")
        for one, other, expected in (
            ("1", "", False), ("1", "0 0 7", True), ("1 -1", "-1 1", True), ("1 0", "1 -1", False), ("1 0", "1 1 0", True),
        ):
            self.assertEqual(self.same(program, one, other), expected, (one, other))

    def test_places_in_the_plain_run(self):
        program = Program.of("place at", "at = here", "answer one = at")
        self.assertFalse(self.same(program, "5 ?a", "?a 5"))
        self.assertTrue(self.same(program, "?a 5", "?b ?a 0 -5"))

    def test_an_unnumbered_entry(self):
        program = Program.of("steps drop", "answer one = 0")
        self.assertFalse(self.same(program, "", "?a"))
        self.assertFalse(self.same(program, "5", "5 ?a"))
        self.assertTrue(self.same(program, "?b 5", "?a ?a"))

    def test_places_of_first_and_last(self):
        program = Program.of("place at", "flag bad", "at = here", "answer one = told at if bad else 0")
        for wish in ("first", "last"):
            self.assertFalse(self.same(program, "5 ?a", "?a ?a", one=wish))
            self.assertFalse(self.same(program, "?a 5 ?a", "5 ?a", one=wish))
            self.assertTrue(self.same(program, "?a 5", "?b 6 7", one=wish))
            self.assertTrue(self.same(program, "5 ?b 6 ?a", "7 ?a 4 5 ?a", one=wish))
            self.assertTrue(self.same(program, "", "", one=wish))
        for wish in ("skip", "spoil", "tell"):
            self.assertTrue(self.same(program, "5 ?a", "5 ?a ?a", one=wish))
        self.assertFalse(self.same(program, "5 ?a", "5 ?a ?a", one="first"))
        self.assertTrue(self.same(program, "5 ?a ?a", "5 ?a ?a ?a", one="last"))

    def test_one_unnumbered_entry_is_both_first_and_last(self):
        program = Program.of("place at", "flag bad", "set bad if x != x", "at = here if bad",
                             "answer one = told at if bad else 0")
        for wish in ("first", "last"):
            self.assertFalse(self.same(program, "?a", "?a 5", one=wish))
            self.assertTrue(self.same(program, "?a 5", "?b 7 6", one=wish))
        self.assertTrue(self.same(program, "?a", "?a 5", one="tell"))

    def test_held_values_of_steps(self):
        program = Program.of("steps hold, shift, shift", "answer one = 0")
        self.assertFalse(self.same(program, "5", "5 6"))
        self.assertTrue(self.same(program, "1 5 6", "5 6"))
        self.assertFalse(self.same(program, "?a", "?a ?a"))
        self.assertTrue(self.same(program, "1 1 ?a", "5 1 1 1 ?b"))
        self.assertFalse(self.same(program, "1 ?a", "1 1 ?a"))

    def test_numbers_of_400_digits(self):
        program = Program.of("keep low", "low = before", "answer one = low")
        many = 10 ** 399
        self.assertTrue(same_situation(program, {}, Series.of(many, many + 1), Series.of(1, 2)))
        self.assertFalse(same_situation(program, {}, Series.of(many, many), Series.of(1, 2)))


class Judge(unittest.TestCase):
    def test_example_of_the_text(self):
        program = Program.of("keep low", "low = x if low is nothing", "low = min(low, x)", "answer least = low")
        verdict = judge(program, SKIP)
        self.assertEqual((bool(verdict), len(verdict), verdict.certificate[:2]), (False, 1, ("broken", "least")))
        self.assertEqual(len(verdict.certificate[2].marks()), 1)
        self.assertTrue(is_judgement(program, SKIP, ("broken", "least", Series.read("?a"))))
        verdict = judge(SKIPS_LEAST, SKIP)
        self.assertEqual((bool(verdict), len(verdict), len(verdict.certificate[1])), (True, 0, 8))
        self.assertIs(type(verdict), Verdict)
        kinds = {(len(row.marks()) > 0, str(run(SKIPS_LEAST, row).answers["least"])[0]) for row in verdict.certificate[1]}
        self.assertEqual(len(kinds), 8)
        program = Program.of("keep low", "low = x if x == x and low is nothing", "low = min(x, low) if not low is nothing",
                             "answer least = low")
        self.assertTrue(is_judgement(program, SKIP, ("broken", "least", Series.read("0 ?a"))))
        verdict = judge(program, SKIP)
        self.assertEqual((bool(verdict), len(verdict), len(verdict.certificate[2])), (False, 2, 2))

    def test_second_example(self):
        program = Program.of("flag bad", "place at", "count many", "at = here if x != x and not bad", "set bad if x != x",
                             "many += 1", "answer size = told at if bad else many")
        verdict = judge(program, {"size": "first"})
        self.assertEqual([bool(verdict), len(verdict.certificate[1]), len(judge(program, {"size": "last"}))], [True, 3, 2])

    def test_no_wishes(self):
        certificate = judge(SKIPS_LEAST, {}).certificate
        self.assertEqual((certificate[0], len(certificate[1])), ("as wished", 8))
        self.assertEqual(certificate[1][0], Series(()))

    def test_an_answer_that_is_free(self):
        program = Program.of("sum total", "total += x", "answer all = total", "answer zero = 0")
        self.assertTrue(judge(program, {"zero": "skip"}))
        self.assertFalse(judge(program, {"zero": "skip", "all": "skip"}))
        self.assertEqual(judge(program, {"zero": "skip", "all": "skip"}).certificate[1], "all")

    def test_an_entry_that_leads_to_a_known_situation_may_break(self):
        program = Program.of("count many", "many += 1", "answer one = many")
        self.assertEqual(len(judge(program, {"one": "skip"})), 1)
        program = Program.of("flag bad", "count many", "steps fill", "many += 1 if bad", "set bad", "answer one = many")
        verdict = judge(program, {"one": "skip"})
        self.assertEqual(len(verdict), 2)
        self.assertTrue(is_judgement(program, {"one": "skip"}, verdict.certificate))

    def test_sums_that_agree_by_chance_are_moved_apart(self):
        # With the entries 2 and 1, or -2 and -1, the run and the plain run add 1 and 1, and 2.
        for between in ("0 < x and x < low", "x < 0 and low < x"):
            program = Program.of("keep low", "flag bad", "sum total", f"total += low if {between} and not bad",
                                 f"total += x if {between} and bad", f"total += x if {between} and bad",
                                 "low = x if x == x", "set bad if x != x", "answer one = total")
            wanted = {"one": "skip"}
            certificate = judge(program, wanted).certificate
            self.assertEqual((certificate[0], len(certificate[2])), ("broken", 3))
            self.assertEqual(is_wished(program, wanted, certificate[2]), {"one": False})
            self.assertTrue(is_judgement(program, wanted, certificate))
            check(self, AskedToJudge(program, wanted), certificate, [0, 1, 2], ("as wished", "broken"))

    def test_too_many(self):
        for wanted in ({}, {"zero": "skip"}):
            with self.assertRaises(TooMany) as caught:
                judge(MANY, wanted)
            self.assertEqual(caught.exception.what, "situations")

    def test_150_situations_are_not_too_many(self):
        program = Program.of("keep low = 0", "keep mid", "sum total", "total += x", "mid = low", "low = x", "answer one = 0")
        self.assertEqual(len(judge(program, {"one": "skip"}).certificate[1]), 150)
        program = Program.of("keep low", "keep high = 0", "steps hold", "low = max(x, high) if max(before, low) is nothing",
                             "high = min(high, before) if (x <= high) or x != x", "answer one = 0")
        asked = AskedToJudge(program, {"one": "skip"})
        self.assertEqual((asked.explored(150), len(asked.explored(151)[1])), (("many",), 151))
        with self.assertRaises(TooMany):
            judge(program, {"one": "skip"})

    def test_broken_goes_ahead_of_too_many(self):
        # The series of at most two entries have 26 situations here, those of at most three more than 150.
        lines = ("keep low", "keep high", "keep mid", "flag one", "flag two", "count many", "steps hold, shift, shift",
                 "low = before", "high = low", "low = max(low, x)")
        ends = ("set two if one", "set one", "answer many = many")
        third = Program.of(*lines, "many += 1 if two and not x == x", *ends)
        verdict = judge(third, {"many": "skip"})
        self.assertEqual(len(verdict), 3)
        check(self, AskedToJudge(third, {"many": "skip"}), verdict.certificate, [0, 1, 2], ("as wished", "broken"))
        fourth = Program.of(*lines, "many += 1 if mid == 0 and not x == x", "mid = 0 if two", *ends)
        self.assertTrue(is_judgement(fourth, {"many": "skip"}, ("broken", "many", Series.read("?a ?a 5 6"))))
        with self.assertRaises(TooMany):
            judge(fourth, {"many": "skip"})

    def test_returned_lists_are_judgements(self):
        for wish in ALL:
            verdict = judge(SKIPS_LEAST, {"least": wish})
            self.assertEqual(bool(verdict), wish == "skip")
            self.assertTrue(is_judgement(SKIPS_LEAST, {"least": wish}, verdict.certificate))

    def test_wishes_do_not_change(self):
        wanted = {"least": "skip"}
        judge(SKIPS_LEAST, wanted)
        self.assertEqual(wanted, {"least": "skip"})


class Judgements(unittest.TestCase):
    rows = judge(SKIPS_LEAST, SKIP).certificate[1]

    def is_closed(self, rows):
        return is_judgement(SKIPS_LEAST, SKIP, ("as wished", rows))

    def test_no_certificates(self):
        for thing in NOTHINGS:
            self.assertIs(is_judgement(SKIPS_LEAST, SKIP, thing), False, thing)

    def test_form(self):
        self.assertIs(is_judgement(SKIPS_LEAST, SKIP, ("as wished", self.rows)), True)
        for thing in (["as wished", self.rows], ("as wished", list(self.rows)), ("as wished", self.rows, None),
                      ("As wished", self.rows), ("alike", self.rows), ("fits", self.rows), ("broken", self.rows),
                      ("as wished",), ("as wished", ()), ("as wished", None), ("as wished", Series(())),
                      ("as wished", (*self.rows, None)), ("as wished", (*self.rows, (self.rows[0], None))),
                      ("as wished", (*self.rows, "")), ("as wished", (*self.rows, True)), ("as wished", "")):
            self.assertIs(is_judgement(SKIPS_LEAST, SKIP, thing), False, thing)

    def test_more_rows_and_other_orders(self):
        self.assertTrue(self.is_closed(self.rows[::-1]))
        self.assertTrue(self.is_closed((*self.rows, *self.rows)))
        self.assertTrue(self.is_closed((*self.rows, *series("-7 ?b ?a 3", "0 0 0"))))
        self.assertTrue(self.is_closed((*self.rows, Series([0] + 59 * [A]))))

    def test_numbers_of_400_digits(self):
        many = 10 ** 399
        self.assertTrue(self.is_closed((*self.rows, Series.of(many, many - 2, A), Series.of(-many, A, many))))
        self.assertFalse(self.is_closed((*self.rows[:3], Series.of(many))))

    def test_each_row_is_needed(self):
        for at in range(8):
            self.assertFalse(self.is_closed(self.rows[:at] + self.rows[at + 1:]), at)

    def test_roomy(self):
        for wrong in ("1", "-1", "-1 ?a", "1 5"):
            self.assertFalse(self.is_closed((*self.rows, *series(wrong))), wrong)
        self.assertTrue(self.is_closed((*self.rows, *series("5 2", "5 3", "-2 -1", "9 8 7 6"))))

    def test_250_entries(self):
        self.assertTrue(self.is_closed((*self.rows, Series(249 * [0]))))
        self.assertFalse(self.is_closed((*self.rows, Series(250 * [0]))))

    def test_rows_that_are_not_as_wished(self):
        program = Program.of("count many", "many += 1 if x == x or x != x", "answer one = many")
        self.assertFalse(is_judgement(program, {"one": "skip"}, ("as wished", series("", "?a"))))
        program = Program.of("flag bad", "count many", "set bad if x != x and 0 < before", "many += 1 if bad",
                             "answer one = many")
        self.assertFalse(is_judgement(program, {"one": "skip"}, ("as wished", series("", "5 ?a"))))

    def test_surely_as_wished(self):
        wanted = {"one": "skip"}
        rows = series("", "0", "5", "-5", "?a", "5 ?a -5 ?a", "0 ?a", "?a 5", "?a -5")
        self.assertEqual([is_wished(ADDS_AGAIN, wanted, row)["one"] for row in rows], 9 * [True])
        self.assertFalse(is_judgement(ADDS_AGAIN, wanted, ("as wished", rows)))

    def test_broken(self):
        program = Program.of("sum total", "total += x", "answer all = total", "answer zero = 0")
        wanted = {"all": "skip"}
        for text in ("?a", "5 ?a", "?a ?b 7"):
            self.assertIs(is_judgement(program, wanted, ("broken", "all", Series.read(text))), True)
        for thing in (("broken", "all", Series.read("5")), ("broken", "all", Series(())), ("broken", "all", "?a"),
                      ("broken", "zero", Series.read("?a")), ("broken", "none", Series.read("?a")),
                      ("broken", None, Series.read("?a")), ("broken", ["all"], Series.read("?a")),
                      ("broken", A, Series.read("?a")), ("broken", "all", (A,)), ("broken", "all", Series.read("?a"), 0),
                      ["broken", "all", Series.read("?a")], ("parted", "all", Series.read("?a")), ("broken", "all"),
                      ("broken", "total", Series.read("?a")), ("broken", True, Series.read("?a"))):
            self.assertIs(is_judgement(program, wanted, thing), False, thing)
        self.assertTrue(is_judgement(program, wanted, ("broken", "all", Series(249 * [7] + [A]))))
        self.assertTrue(is_judgement(program, wanted, ("broken", "all", Series([10 ** 399, A]))))

    def test_broken_asks_for_results_that_do_not_agree(self):
        wanted = {"one": "skip"}
        for text, expected in (("5 ?a", True), ("0 ?a 5", False), ("5 ?a -5 ?a", False), ("5 ?a -5 ?a 6", False),
                               ("5 ?a -5 ?a 6 ?a", True)):
            self.assertEqual(is_judgement(ADDS_AGAIN, wanted, ("broken", "one", Series.read(text))), expected, text)

    def test_empty_wishes(self):
        self.assertTrue(is_judgement(SKIPS_LEAST, {}, ("as wished", self.rows)))
        self.assertFalse(is_judgement(SKIPS_LEAST, {}, ("as wished", self.rows[:4])))
        self.assertFalse(is_judgement(SKIPS_LEAST, {}, ("broken", "least", Series.read("?a"))))

    def test_many_long_rows(self):
        rows = tuple(Series([-2 * at, *(59 * [A])]) for at in range(290)) + self.rows
        self.assertTrue(self.is_closed(rows))


class Agreement(unittest.TestCase):
    """The keys of tests.brute, by which results are compared there, are equal where results agree."""

    def test_keys(self):
        results = (None, 0, 1, A, Unnumbered("b"), True, False, Told(None), Told(0), (0, 1), (A, 1), (None, 0))
        for one, other in itertools.product(results, repeat=2):
            self.assertEqual(key(one) == key(other), one is other, (one, other))


KEEPS = (
    "low = x if low is nothing", "low = x if x == x and low is nothing", "low = min(low, x)", "low = min(x, low)",
    "low = x if x < low", "low = x if not x >= low",
)
GOOD = (
    (("flag bad", "set bad if x != x", "answer one = told if bad else 0"), "tell"),
    (("flag bad", "place at", "at = here if x != x", "set bad if x != x", "answer one = told at if bad else 0"), "last"),
    (("sum total", "total += x", "answer one = total"), "spoil"),
    (("sum total", "count many", "total += x if x == x", "many += 1 if x == x", "answer one = total by many"), "skip"),
    (("sum total", "steps hold, drop", "total += x", "answer one = total"), "skip"),
    (("place at", "keep low", "at = here if x == x and (low is nothing or x < low)",
      "low = x if x == x and (low is nothing or x < low)", "answer one = at"), "skip"),
    (("keep low", "keep high", "low = before", "high = low if x == 0", "answer one = high"), "skip"),
    (("sum total", "total += x if x == x", "total -= before if before == before and not before is nothing",
      "answer one = total"), "skip"),
    (("keep low", "count many", "leave if x != x", "many += 1", "answer one = many"), "skip"),
)


class AllShortSeries(unittest.TestCase):
    def hold(self, program, wanted, lengths):
        asked = AskedToJudge(program, wanted)
        try:
            certificate = judge(program, wanted).certificate
        except TooMany:
            self.assertEqual(asked.explored(150), ("many",))
            return "many"
        self.assertTrue(is_judgement(program, wanted, certificate))
        check(self, asked, certificate, lengths, ("as wished", "broken"))
        return certificate[0]

    def test_least_values(self):
        found = []
        for first, second in itertools.permutations(KEEPS, 2):
            for steps in ((), ("steps drop",), ("steps fill",), ("steps hold",), ("steps shift",)):
                program = Program.of("keep low", *steps, first, second, "answer least = low")
                found.append(self.hold(program, SKIP, [0, 1, 2]))
        self.assertEqual(set(found), {"as wished", "broken"})

    def test_several_wishes(self):
        for lines, wish in GOOD:
            for wanted in ({"one": wish}, {"one": "skip"}, {"one": "spoil"}, {"one": "tell"}, {"one": "first"}):
                self.hold(Program.of(*lines), wanted, [0, 1, 2])

    def test_long_ways(self):
        program = Program.of("keep low", "flag bad", "flag odd", "steps fill", "low = x if odd", "set odd if bad", "set bad",
                             "answer one = low")
        self.assertEqual(len(judge(program, {"one": "skip"})), 3)
        self.assertEqual(self.hold(program, {"one": "skip"}, [0, 1, 2, 3]), "broken")
        program = Program.of("keep low", "count many", "many += 1 if low != low and not low is nothing and x == 0",
                             "low = before", "answer one = many")
        self.assertEqual(len(judge(program, {"one": "skip"})), 3)
        self.assertEqual(self.hold(program, {"one": "skip"}, [0, 1, 2, 3]), "broken")
        program = Program.of("keep low", "steps drop, shift", "low = before if x == x", "answer one = low")
        self.hold(program, {"one": "skip"}, [0, 1, 2])

    def test_rows_are_those_of_situations(self):
        asked = AskedToJudge(SKIPS_LEAST, SKIP)
        pairs = itertools.combinations(judge(SKIPS_LEAST, SKIP).certificate[1], 2)
        for one, other in pairs:
            self.assertFalse(same_situation(SKIPS_LEAST, SKIP, one, other))
            self.assertNotEqual(asked.situation(one, None), asked.situation(other, None))

    def test_situations_and_single_series(self):
        programs = [Program.of(*lines) for lines, _ in GOOD]
        texts = ("", "5", "0", "-5 7", "?a", "5 ?a", "?a 5", "?a ?b 3", "7 ?a 7 ?a", "0 ?b -1")
        for program in programs:
            for wish in ALL:
                asked = AskedToJudge(program, {"one": wish})
                for one in series(*texts):
                    self.assertEqual(is_wished(program, {"one": wish}, one),
                                     {"one": asked.wrong(one, None, False) == []})
                    for other in series(*texts):
                        self.assertEqual(same_situation(program, {"one": wish}, one, other),
                                         asked.situation(one, None) == asked.situation(other, None))


if __name__ == "__main__":
    unittest.main()
