"""Rules of rewriting, the book, matches and what is rewritten (points 34 and 35, and 3)."""

import ast
import inspect
import itertools
import re
import unittest

from unnumbered.comparing import compare
from unnumbered.errors import BadRule, NoMatch, TooMany
from unnumbered.programs import Program
from unnumbered.rules import Rule, book, is_safe, matches, parting, rewritten
from unnumbered.running import run
from unnumbered.series import Series
from unnumbered.values import Told, Unnumbered, same

A = Unnumbered("a")
REGISTERS = ("keep low", "keep high", "keep mid", "flag bad", "sum total", "count many", "place at", "place to")
NUMBERS = (-3, -2, -1, 0, 1, 2, 3)
VALUES = (*NUMBERS, Unnumbered("p"), Unnumbered("q"), Unnumbered("r"), None)


def program(*statements, steps=()):
    return Program.of(*REGISTERS, *steps, *statements, "answer least = low")


class Held:
    """A value in a side of a rule, of which Python works out the signs."""

    def __init__(self, value):
        self.value = value

    def both(self, other):
        values = self.value, other.value
        return None if None in values or any(isinstance(value, Unnumbered) for value in values) else values

    def __lt__(self, other):
        return bool(self.both(other)) and self.value < other.value

    def __le__(self, other):
        return bool(self.both(other)) and self.value <= other.value

    def __eq__(self, other):
        return bool(self.both(other)) and self.value == other.value

    def __ne__(self, other):
        return not self == other

    def __gt__(self, other):
        return other < self

    def __ge__(self, other):
        return other <= self

    def __mod__(self, others):
        """Whether it is the same as one of these."""
        return any(same(self.value, other.value) for other in (others if isinstance(others, tuple) else (others,)))


def by_python(text, values):
    """What a side of a rule comes to, as Python reads it; is and in become a sign that binds more."""
    words = {"a": Held(values[0]), "b": Held(values[1]), "c": Held(values[2]), "zero": Held(0), "nothing": Held(None),
             "min": lambda one, other: other if other < one else one,
             "max": lambda one, other: other if other > one else one}
    text = re.sub(" (is|in) ", " % ", text.replace("0", "zero"))
    result = eval(text, words)
    return result if isinstance(result, bool) else result.value


def are_apart(rule, values):
    one, other = [by_python(side, values) for side in str(rule).split(" -> ")]
    return one is not other if isinstance(one, bool) else not same(one, other)


def first_parting(rule, values):
    """The first of all values, a few for each letter, for which the sides do not agree, or None."""
    choices = [values if letter in re.findall("[a-z]+", str(rule)) else [0] for letter in "abc"]
    return next((chosen for chosen in itertools.product(*choices) if are_apart(rule, chosen)), None)


class Rules(unittest.TestCase):
    def test_terms_and_tests(self):
        for text, is_test in (
            ("a -> a", False), ("0 -> nothing", False), ("nothing -> nothing", False), ("min(a, b) -> max(b, a)", False),
            ("min(max(a, 0), c) -> c", False), ("a -> 0", False), ("a < b -> b > a", True), ("0 < 0 -> 0 == 0", True),
            ("a is nothing -> a in (nothing)", True), ("a in (b, c, 0) -> a in (c)", True),
            ("not a < b or (b < c and not c is nothing) -> a < b", True), ("nothing is nothing -> 0 in (0)", True),
            ("((a < b)) -> (a < b)", True), ("not not a < b -> a != b", True), ("min(a, b) <= c -> c >= max(a, b)", True),
        ):
            self.assertIs(Rule(text).is_test, is_test, text)

    def test_as_written(self):
        for text, expected in (
            ("a->a", "a -> a"), ("  min( a ,b )->max (b,a)  ", "min(a, b) -> max(b, a)"),
            ("a<b->not(b<=a)", "a < b -> not (b <= a)"), ("((a<b))->b>a", "((a < b)) -> b > a"),
            ("a in(b,c)  -> a is   nothing", "a in (b, c) -> a is nothing"),
            ("a<b and(b<c or c!=0)->a==b", "a < b and (b < c or c != 0) -> a == b"),
        ):
            self.assertEqual(str(Rule(text)), expected)
            self.assertEqual(str(Rule(expected)), expected)

    def test_equal(self):
        self.assertTrue(Rule("a<b->b>a") == Rule(" a < b -> b > a "))
        self.assertFalse(Rule("a<b->b>a") != Rule("a < b -> b > a"))
        for other in ("(a < b) -> b > a", "b < a -> a > b", "a < b -> not b <= a"):
            self.assertFalse(Rule("a < b -> b > a") == Rule(other))
        for other in ("a -> a", None, 0, A, Told(None), Series(()), Program.of("answer a = 0"), ("a", "a"), True):
            self.assertFalse(Rule("a -> a") == other)
            self.assertTrue(Rule("a -> a") != other)

    def test_by_name(self):
        self.assertEqual(Rule(text="a -> a"), Rule("a -> a"))

    def test_long_and_deep_sides(self):
        deep = "a"
        for _ in range(12):
            deep = f"min({deep}, b)"
        self.assertEqual(str(Rule(f"{deep} -> {deep}")), f"{deep} -> {deep}")
        self.assertTrue(is_safe(Rule(f"{deep} -> {deep}")))
        brackets = 12 * "(" + "a < b" + 12 * ")"
        self.assertTrue(is_safe(Rule(f"{brackets} -> {12 * 'not '}{brackets}")))


class WrongRules(unittest.TestCase):
    def side(self, text):
        with self.assertRaises(BadRule) as caught:
            Rule(text)
        return caught.exception.side

    def test_no_rule(self):
        for thing in (None, True, 0, 7, ["a -> a"], ("a -> a",), (), A, Told(1), Series(()), Rule("a -> a")):
            self.assertEqual(self.side(thing), -1)
        for text in ("", "a", "a - > a", "a => a", "a -> a -> a", "a ->-> a", "->->", "x", "a < b"):
            self.assertEqual(self.side(text), -1, text)

    def test_no_left_side(self):
        for text in ("", " ", "x", "before", "here", "d", "ab", "low", "A", "1", "7", "-0", "a b", "(a)", "min(a)", "max(a, b, c)",
                     "min a, b", "a <", "a < b < c", "a < b and", "not a", "a is 0", "a in b", "a in ()", "bad", "total == total",
                     "x < a", "a < before", "a < b,", "a\n", "a = b", "a += b", "(a < b", "a < b)", "a and b", "min(a < b, c)",
                     "a !", "a -", "skip", "a if b < c", "a in (b,)", "a < (b)", "a is not nothing", "a not in (b)"):
            self.assertEqual(self.side(f"{text}-> a"), 0, text)
            self.assertEqual(self.side(f"{text}-> wrong too"), 0, text)

    def test_no_right_side(self):
        for text in ("", " ", "x", "before", "d", "1", "a b", "(a)", "a <", "a < b < c", "not a", "a is 0", "x < a", "= b", "a\n",
                     "\n", "> a", "a and b", "(a < b", "a,"):
            self.assertEqual(self.side(f"a ->{text}"), 1, text)
            self.assertEqual(self.side(f"a < b ->{text}"), 1, text)

    def test_a_term_and_a_test(self):
        for text in ("a -> a < b", "a < b -> a", "0 -> a is nothing", "a is nothing -> nothing", "a -> b < 0", "a < 0 -> b"):
            self.assertEqual(self.side(text), 2, text)

    def test_a_letter_on_the_right_side_alone(self):
        for text in ("a -> b", "0 -> a", "a < b -> a < c", "min(a, c) -> min(a, b)", "a is nothing -> b in (a)",
                     "0 < 0 -> a == a", "a < b -> not (a in (b, c))"):
            self.assertEqual(self.side(text), 3, text)
        for text in ("min(a, b) -> a", "a < b -> 0 < 0", "a in (b, c) -> a in (b)", "c -> c", "b < c -> c > b"):
            self.assertEqual(str(Rule(text)), text)


SAFE = (
    "a -> a", "min(a, a) -> a", "max(a, min(a, b)) -> a", "a < b -> b > a", "a <= b -> a < b or a == b", "a != b -> not a == b",
    "not (a < b and b < c) -> not a < b or not b < c", "a is nothing -> a in (nothing)", "a in (b, c) -> a in (c, b)",
    "a in (b) -> b in (a)", "a == b and b == c -> a == b and a == c", "a < b and b < c -> a < b and b < c and a < c",
    "a == a -> a <= a", "nothing is nothing -> 0 == 0", "nothing < 0 -> 0 < 0", "0 in (0) -> not nothing in (0)",
    "a < b -> not not a < b", "(a < b) -> a < b", "a in (a) -> 0 == 0", "max(a, nothing) -> a", "0 -> 0", "min(nothing, a) -> nothing",
    "min(min(a, b), b) -> min(a, b)", "a == b or a in (b) -> a in (b)", "0 < a and a < b and b < c -> 0 < a and b > a and b < c",
    "a < 0 and 0 < b -> a < 0 and 0 < b and a < b",
)
FOR_NUMBERS = (
    "a < b -> not b <= a", "not a < b -> a >= b", "min(a, b) -> min(b, a)", "max(a, b) -> max(b, a)", "a == a -> 0 == 0",
    "a in (b) -> a == b", "a is nothing -> 0 < 0", "min(max(a, b), c) -> max(min(c, a), min(b, c))",
    "a < b or b < a -> a != b", "a < b or a >= b -> 0 == 0", "min(a, min(b, c)) -> min(min(a, b), c)",
    "a < b or b < c or c <= a -> 0 == 0", "a < b -> a <= b and a != b or a is nothing",
)
UNSAFE = (
    "a < b -> a <= b", "a -> 0", "a -> nothing", "min(a, b) -> a", "min(a, b) -> max(a, b)", "a < b and b < c -> a < c",
    "a in (b, c) -> a in (b)", "a < b and b < 0 and 0 < c -> a < c and b < c", "0 < 0 -> 0 == 0", "nothing -> 0",
    "c < b and b < a and a < 0 -> 0 < 0", "0 < a and a < b and b < c -> nothing == nothing", "0 < c and c < b and b < a -> 0 < 0",
    "a < 0 and 0 < b and a < c and c < 0 -> 0 < 0", "b < c and c < a and a < 0 -> 0 < 0", "a < c and c < b and b < 0 -> 0 < 0",
    "a != b and b != c and a != c -> a in (0) or b in (0) or c in (0)",
)
OF_NAMES = (
    "a in (b) and b != b -> 0 < 0", "not (a in (b, c, nothing) or b in (c, nothing) or a == a or b == b or c == c) -> 0 < 0",
    "a in (b) and not a in (c) and c != c -> a == b",
)


class Book(unittest.TestCase):
    def hold(self, rule, unnumbered, safe):
        found = parting(rule, unnumbered=unnumbered)
        values = VALUES if unnumbered else NUMBERS
        self.assertEqual((found is None, first_parting(rule, values) is None), (safe, safe), str(rule))
        self.assertIs(is_safe(rule, unnumbered=unnumbered), safe)
        if not safe:
            self.assertEqual((type(found), len(found)), (tuple, 3))
            self.assertTrue(are_apart(rule, found), str(rule))
            for value in found:
                self.assertTrue(isinstance(value, int) or unnumbered and (value is None or isinstance(value, Unnumbered)))

    def test_safe(self):
        for text in SAFE:
            self.hold(Rule(text), True, True)
            self.hold(Rule(text), False, True)

    def test_safe_for_numbers(self):
        for text in FOR_NUMBERS:
            self.hold(Rule(text), True, False)
            self.hold(Rule(text), False, True)

    def test_not_safe(self):
        for text in UNSAFE:
            self.hold(Rule(text), True, False)
            self.hold(Rule(text), False, False)

    def test_names(self):
        for text in OF_NAMES:
            self.hold(Rule(text), True, False)
        for text in OF_NAMES[:2]:
            self.hold(Rule(text), False, True)

    def test_all_values_of_a_few_for_each_letter(self):
        terms = ("a", "b", "c", "0", "nothing", "min(a, b)", "max(b, a)", "min(c, 0)", "max(min(a, b), c)")
        found = []
        for one, other in itertools.permutations(terms, 2):
            try:
                found.append(Rule(f"{one} -> {other}"))
            except BadRule as error:
                self.assertEqual(error.side, 3)
        tests = ("a < b", "b > a", "not b <= a", "a == b", "a in (b)", "a is nothing", "a in (0, nothing)", "not a != b and a == a",
                 "a < b or b < a", "min(a, b) == a", "max(a, b) in (a) and a == a")
        found += [Rule(f"{one} -> {other}") for one, other in itertools.product(tests, repeat=2)
                  if "b" in one or "b" not in other]
        safe = {True: [], False: []}
        for rule in found:
            for unnumbered in (True, False):
                is_so = first_parting(rule, VALUES if unnumbered else NUMBERS) is None
                self.hold(rule, unnumbered, is_so)
                if is_so:
                    safe[unnumbered].append(rule)
        self.assertEqual(book(found), safe[True])
        self.assertEqual(book(found, unnumbered=True), safe[True])
        self.assertEqual(book(found, unnumbered=False), safe[False])
        self.assertTrue(10 < len(safe[True]) < len(safe[False]) < len(found) - 10)

    def test_book_has_the_same_objects_in_their_order(self):
        rules = [Rule(text) for text in ("a -> 0", "max(a, b) -> max(b, a)", "a -> a", "a < b -> b > a", "a -> a")]
        for unnumbered, expected in ((True, [2, 3, 4]), (False, [1, 2, 3, 4])):
            found = book(rules, unnumbered=unnumbered)
            self.assertEqual([id(rule) for rule in found], [id(rules[at]) for at in expected])
        found.clear()
        self.assertEqual(len(rules), 5)
        self.assertEqual(len(book(rules)), 3)
        self.assertEqual(book([]), [])

    def test_values_of_letters_that_do_not_occur(self):
        for text in ("b -> 0", "c -> nothing", "a < c -> 0 < 0", "0 -> nothing"):
            found = parting(Rule(text), unnumbered=False)
            self.assertEqual([type(value) for value in found], 3 * [int])
            self.assertTrue(are_apart(Rule(text), parting(Rule(text))))

    def test_unnumbered_is_a_name_alone(self):
        for function in (is_safe, parting):
            with self.assertRaises(TypeError):
                function(Rule("a -> a"), False)
            self.assertEqual(str(inspect.signature(function)), "(rule, *, unnumbered=True)")
        with self.assertRaises(TypeError):
            book([], False)


class Matches(unittest.TestCase):
    def hold(self, text, statement, *behind):
        """Each match of a rule in a statement, rewritten."""
        rule = Rule(text)
        one = program("skip", statement)
        self.assertEqual(matches(one, rule), len(behind), statement)
        for number, line in enumerate(behind):
            found = rewritten(one, rule, number)
            self.assertEqual(found.statements, ("skip", line))
            self.assertEqual(found, program("skip", line))
        for number in (-1, -len(behind), len(behind), len(behind) + 1, 10 ** 399, -10 ** 399):
            if not 0 <= number < len(behind):
                with self.assertRaises(NoMatch) as caught:
                    rewritten(one, rule, number)
                self.assertEqual(caught.exception.number, number)

    def test_a_term(self):
        self.hold("min(a, b) -> max(b, a)", "low = min(low, x)", "low = max(x, low)")
        self.hold("min(a, b) -> max(b, a)", "total += min(low, x)", "total += max(x, low)")
        self.hold("min(a, b) -> max(b, a)", "total -= min(low, x) if bad", "total -= max(x, low) if bad")
        self.hold("min(a, b) -> max(b, a)", "low = max(low, x)")
        self.hold("min(a, 0) -> a", "low = min(x, 0)", "low = x")
        self.hold("min(a, 0) -> a", "low = min(0, x)")
        self.hold("min(a, 0) -> a", "low = min(x, nothing)")
        self.hold("nothing -> 0", "low = nothing", "low = 0")
        self.hold("0 -> nothing", "low = min(0, max(0, x))", "low = min(nothing, max(0, x))", "low = min(0, max(nothing, x))")

    def test_terms_within_terms(self):
        self.hold("min(a, b) -> max(b, a)", "low = min(min(low, x), 0)",
                  "low = max(0, min(low, x))", "low = min(max(x, low), 0)")
        self.hold("min(a, b) -> b", "low = max(min(low, x), min(min(x, 0), high))",
                  "low = max(x, min(min(x, 0), high))", "low = max(min(low, x), high)", "low = max(min(low, x), min(0, high))")

    def test_a_letter_that_occurs_twice(self):
        self.hold("min(a, a) -> a", "low = min(x, x)", "low = x")
        self.hold("min(a, a) -> a", "low = min(x, low)")
        self.hold("min(a, a) -> a", "low = min(min(low, x), min( low,x ))", "low = min(low, x)")
        self.hold("min(a, a) -> a", "low = min(min(low, x), min(x, low))")
        self.hold("a == a -> not a is nothing", "skip if x == x", "skip if (not x is nothing)")
        self.hold("a == a -> not a is nothing", "skip if x == low or total == total")
        self.hold("a in (b, a) -> 0 == 0", "skip if x in (low, x) or low in (low, x)", "skip if (0 == 0) or low in (low, x)")

    def test_a_letter_on_the_left_side_alone(self):
        self.hold("min(a, b) -> a", "low = min(before, x)", "low = before")
        self.hold("a < b -> 0 < 0", "skip if x < low", "skip if (0 < 0)")
        self.assertTrue(program("low = min(before, x)").has_before)
        self.assertFalse(rewritten(program("low = min(before, x)"), Rule("min(a, b) -> b"), 0).has_before)

    def test_letters_twice_on_the_right_side(self):
        self.hold("a -> min(a, a)", "low = max(x, 0)", "low = min(max(x, 0), max(x, 0))", "low = max(min(x, x), 0)",
                  "low = max(x, min(0, 0))")

    def test_a_single_letter_matches_every_term(self):
        statement = "low = min(low, max(x, 0)) if x in (low, before) and not high is nothing"
        for letter in "abc":
            self.assertEqual(matches(program(statement), Rule(f"{letter} -> {letter}")), 9)
            for number in range(9):
                self.assertEqual(rewritten(program(statement), Rule(f"{letter} -> {letter}"), number), program(statement))
        self.hold("a -> nothing", statement, *[
            f"low = {term} if {test}" for term, test in (
                ("nothing", "x in (low, before) and not high is nothing"),
                ("min(nothing, max(x, 0))", "x in (low, before) and not high is nothing"),
                ("min(low, nothing)", "x in (low, before) and not high is nothing"),
                ("min(low, max(nothing, 0))", "x in (low, before) and not high is nothing"),
                ("min(low, max(x, nothing))", "x in (low, before) and not high is nothing"),
                ("min(low, max(x, 0))", "nothing in (low, before) and not high is nothing"),
                ("min(low, max(x, 0))", "x in (nothing, before) and not high is nothing"),
                ("min(low, max(x, 0))", "x in (low, nothing) and not high is nothing"),
                ("min(low, max(x, 0))", "x in (low, before) and not nothing is nothing"),
            )
        ])

    def test_what_is_no_term(self):
        for statement in ("many += 1", "at = here", "at = to", "set bad", "skip", "leave", "skip if bad", "many += 1 if not bad",
                          "leave if total == total", "at = to if total != total and (bad)"):
            self.hold("a -> a", statement)
            self.hold("a == a -> a == a", statement)
            self.hold("a != a -> a != a", statement)

    def test_nothing_behind_is_is_no_term(self):
        self.hold("nothing -> 0", "skip if x is nothing")
        self.hold("nothing -> 0", "skip if nothing is nothing", "skip if 0 is nothing")
        self.hold("a is nothing -> a in (nothing)", "skip if min(x, low) is nothing", "skip if (min(x, low) in (nothing))")

    def test_a_comparison(self):
        for sign in ("<", "<=", ">", ">=", "==", "!="):
            self.hold(f"a {sign} b -> b != a", f"skip if x {sign} low", "skip if (low != x)")
            for other in {"<", "<=", ">", ">=", "==", "!="} - {sign}:
                self.hold(f"a {sign} b -> b != a", f"skip if x {other} low")
        self.hold("a < 0 -> 0 > a", "skip if x < 0 or 0 < x or low < 0", "skip if (0 > x) or 0 < x or low < 0",
                  "skip if x < 0 or 0 < x or (0 > low)")

    def test_example_of_the_text(self):
        one = Program.of("keep low", "low = min(low, x) if (x < low) or low is nothing", "answer least = low")
        rule = Rule("a < b -> not b <= a")
        self.assertEqual([matches(one, rule), rewritten(one, rule, 0).statements],
                         [1, ("low = min(low, x) if (not low <= x) or low is nothing",)])

    def test_brackets_around_a_test_count_for_nothing(self):
        for left in ("a < b", "(a < b)", "(((a < b)))"):
            rule = f"{left} -> not b <= a"
            self.hold(rule, "skip if x < low", "skip if (not low <= x)")
            self.hold(rule, "skip if (x < low)", "skip if (not low <= x)")
            self.hold(rule, "skip if (((x < low)))", "skip if (not low <= x)")
            self.hold(rule, "skip if not ((x < low))", "skip if not (not low <= x)")
            self.hold(rule, "skip if not x < low", "skip if not (not low <= x)")
            self.hold(rule, "skip if ((x < low)) and ((bad) or (x < low))", "skip if (not low <= x) and ((bad) or (x < low))",
                      "skip if ((x < low)) and ((bad) or (not low <= x))")

    def test_brackets_of_the_right_side_stay(self):
        self.hold("a < b -> (b > a)", "skip if x < low", "skip if ((low > x))")
        self.hold("a < b -> not (b <= a)", "skip if (x < low)", "skip if (not (low <= x))")
        self.hold("a < b -> (a < b) and (b > a)", "skip if bad and x < low", "skip if bad and ((x < low) and (low > x))")

    def test_brackets_within_sides(self):
        for left in ("not a < b", "not (a < b)", "(not ((a < b)))"):
            for statement in ("skip if not x < low", "skip if not (x < low)", "skip if (not ((x < low)))"):
                self.hold(f"{left} -> b <= a", statement, "skip if (low <= x)")
        self.hold("a < b and (b < c or a is nothing) -> 0 < 0", "skip if (x < low) and (low < 0 or ((x is nothing)))",
                  "skip if (0 < 0)")
        self.hold("(a < b) and b < c -> b < c and a < b", "skip if x < low and ((low < 0))", "skip if (low < 0 and x < low)")

    def test_tests_within_tests(self):
        self.hold("not a < b -> a >= b", "skip if not not x < low", "skip if not (x >= low)")
        self.hold("not not a < b -> a < b", "skip if not not not x < low", "skip if not (x < low)")
        self.hold("not not a < b -> a < b", "skip if not (not (not (not x < low)))", "skip if not (not (x < low))")

    def test_all_parts_of_an_and_belong_to_one(self):
        rule = "a < b and b < c -> a < c"
        self.hold(rule, "skip if x < low and low < 0", "skip if (x < 0)")
        self.hold(rule, "skip if x < low and low < 0 and 0 < high")
        self.hold(rule, "skip if bad and x < low and low < 0")
        self.hold(rule, "skip if bad and (x < low and low < 0)", "skip if bad and (x < 0)")
        self.hold(rule, "skip if (x < low and low < 0) and (low < 0 and 0 < high)", "skip if (x < 0) and (low < 0 and 0 < high)",
                  "skip if (x < low and low < 0) and (low < high)")
        self.hold(rule, "skip if x < low and low < 0 or 0 < high and high < x", "skip if (x < 0) or 0 < high and high < x",
                  "skip if x < low and low < 0 or (0 < x)")
        self.hold(rule, "skip if x < low and 0 < high")
        self.hold("a < b and b < c and c < 0 -> a < 0", "skip if x < low and low < high and high < 0", "skip if (x < 0)")
        self.hold("a < b and b < c and c < 0 -> a < 0", "skip if (x < low and low < high) and high < 0")
        self.hold("(a < b and b < c) and c < 0 -> a < 0", "skip if x < low and low < high and high < 0")
        self.hold("(a < b and b < c) and c < 0 -> a < 0", "skip if ((x < low) and low < high) and (high < 0)", "skip if (x < 0)")

    def test_all_parts_of_an_or_belong_to_one(self):
        rule = "a < b or b < a -> a != b"
        self.hold(rule, "skip if x < low or low < x", "skip if (x != low)")
        self.hold(rule, "skip if x < low or low < x or bad")
        self.hold(rule, "skip if (x < low or low < x) or bad", "skip if (x != low) or bad")
        self.hold(rule, "skip if bad and (x < low or low < x)", "skip if bad and (x != low)")
        self.hold(rule, "skip if x < low and low < x")
        self.hold("a < b or b < a and a == a -> 0 < 0", "skip if x < low or low < x and x == x", "skip if (0 < 0)")
        self.hold("a < b or b < a and a == a -> 0 < 0", "skip if (x < low or low < x) and x == x")

    def test_in(self):
        rule = "a in (b, c) -> a in (c, b)"
        self.hold(rule, "skip if x in (low, max(x, 0))", "skip if (x in (max(x, 0), low))")
        self.hold(rule, "skip if x in (low) or x in (low, high, mid)")
        self.hold("a in (b) -> a == b", "skip if x in (low)", "skip if (x == low)")
        self.hold("min(a, b) -> a", "skip if min(x, 0) in (min(low, 0), 0, min(high, 0))",
                  "skip if x in (min(low, 0), 0, min(high, 0))", "skip if min(x, 0) in (low, 0, min(high, 0))",
                  "skip if min(x, 0) in (min(low, 0), 0, high)")

    def test_the_term_ahead_of_if_comes_first(self):
        self.hold("max(a, b) -> b", "low = max(low, x) if max(x, 0) < max(0, x)", "low = x if max(x, 0) < max(0, x)",
                  "low = max(low, x) if 0 < max(0, x)", "low = max(low, x) if max(x, 0) < x")

    def test_statement_by_statement(self):
        lines = ["low = min(low, x) if min(x, 0) is nothing", "skip", "total += min(x, high)", "set bad if x == min(0, low)"]
        rule = Rule("min(a, b) -> b")
        self.assertEqual(matches(program(*lines), rule), 4)
        found = [rewritten(program(*lines), rule, number).statements for number in range(4)]
        self.assertEqual(found, [
            ("low = x if min(x, 0) is nothing", *lines[1:]), ("low = min(low, x) if 0 is nothing", *lines[1:]),
            (*lines[:2], "total += high", lines[3]), (*lines[:3], "set bad if x == low"),
        ])

    def test_letters_that_are_keeps_of_the_program(self):
        one = Program.of("keep b", "keep a", "a = min(b, a) if b < a", "answer a = max(a, b)")
        self.assertEqual(rewritten(one, Rule("a < b -> b > a"), 0).statements, ("a = min(b, a) if (a > b)",))
        self.assertEqual(rewritten(one, Rule("min(a, b) -> min(b, a)"), 0).statements, ("a = min(a, b) if b < a",))
        self.assertEqual(matches(one, Rule("max(a, b) -> a")), 0)

    def test_other_lines_and_the_program_stay(self):
        one = Program.of("keep low = 0", "sum total", "keep high", "steps fill, shift", "low = max(x, low)",
                         "high = low if(( low<high ))", "answer all = max(low, 0)")
        text = str(one)
        found = rewritten(one, Rule("max(a, b) -> max(b, a)"), 0)
        self.assertEqual(str(found), text.replace("max(x, low)", "max(low, x)"))
        self.assertEqual(str(one), text)
        self.assertEqual((found.steps, found.starts), (("fill", "shift"), (0, None)))

    def test_programs_without_statements(self):
        self.hold("a -> 0", "skip")
        self.assertEqual(matches(Program.of("answer one = 0"), Rule("a -> 0")), 0)

    def test_longer_and_deeper_lines(self):
        one = program("low = x if " + 10 * "(" + "x < low" + 10 * ")" + 16 * " or x == x")
        for _ in range(12):
            one = rewritten(one, Rule("a < b -> not (a < b)"), 0)
        self.assertIn("if " + 12 * "(not " + "(x < low)" + 12 * ")" + " or", one.statements[0])
        one = program("low = x")
        for _ in range(6):
            one = rewritten(one, Rule("a -> min(a, a)"), 0)
        self.assertEqual(one.statements[0].count("x"), 64)
        self.assertTrue(200 < len(one.statements[0]) < 1000)
        self.assertEqual(matches(one, Rule("a -> a")), 127)

    def test_by_name(self):
        one, rule = program("low = x"), Rule("a -> 0")
        self.assertEqual(matches(rule=rule, program=one), 1)
        self.assertEqual(rewritten(number=0, rule=rule, program=one), program("low = 0"))


NO_TERMS = ("min", "max", "bad", "total")


def terms_and_tests(node):
    """The terms and tests in a node of Python's own tree, each ahead of its parts; brackets are none of them."""
    yield node
    parts = [part for part in ast.iter_child_nodes(node) if isinstance(part, ast.expr)]
    if isinstance(node, ast.Compare) and isinstance(node.ops[0], ast.Is):
        parts = parts[:1]
    if isinstance(node, ast.Compare) and isinstance(node.comparators[0], ast.Tuple):
        parts = [node.left, *node.comparators[0].elts]
    for part in parts:
        if not isinstance(part, ast.Name) or part.id not in NO_TERMS:
            yield from terms_and_tests(part)


def is_side(side, node, terms):
    """Whether a node is a side of a rule; terms is a dict from letters to what was found for them."""
    if isinstance(side, ast.Name) and side.id in "abc":
        if isinstance(node, ast.Tuple) or isinstance(node, ast.Name) and node.id in NO_TERMS:
            return False
        return ast.dump(terms.setdefault(side.id, node)) == ast.dump(node)
    if type(side) is not type(node):
        return False
    if isinstance(side, (ast.Name, ast.Constant)):
        return ast.dump(side) == ast.dump(node)
    words = [[type(part) for part in ast.iter_child_nodes(tree) if not isinstance(part, ast.expr)] for tree in (side, node)]
    parts = [[part for part in ast.iter_child_nodes(tree) if isinstance(part, ast.expr)] for tree in (side, node)]
    return words[0] == words[1] and len(parts[0]) == len(parts[1]) and all(map(is_side, *parts, itertools.repeat(terms)))


def by_python_rewritten(line, text):
    """The lines that the matches of a rule make of a statement, read by Python."""
    left, right = [side.strip() for side in text.split("->")]
    side = ast.parse(left, mode="eval").body
    found = []
    action, _, test = line.partition(" if ")
    head, equals, term = action.partition("= ")
    pieces = [(head + equals, term, " if " + test if test else ""), (action + " if ", test, "")]
    for ahead, piece, behind in pieces:
        for node in terms_and_tests(ast.parse(piece, mode="eval").body) if piece else ():
            terms = {}
            is_term = isinstance(node, (ast.Constant, ast.Call)) or isinstance(node, ast.Name) and node.id not in NO_TERMS
            if is_term == isinstance(side, (ast.Name, ast.Constant, ast.Call)) and is_side(side, node, terms):
                start, end = node.col_offset, node.end_col_offset
                fresh = re.sub(r"\b[abc]\b", lambda letter: ast.get_source_segment(piece, terms[letter.group()]), right)
                if not is_term:
                    while piece[:start].endswith("(") and piece[end:].startswith(")"):
                        start, end = start - 1, end + 1
                    fresh = f"({fresh})"
                found.append(ahead + piece[:start] + fresh + piece[end:] + behind)
    return found


class MatchesByPython(unittest.TestCase):
    """Python reads terms and tests as programs do, and its trees have no brackets."""

    lefts = (
        "a", "0", "nothing", "min(a, b)", "min(a, a)", "max(a, min(b, c))", "min(a, 0)", "a < b", "a == a", "a < a", "((a < b))",
        "not a < b", "not (not a < b)", "a is nothing", "a in (b)", "a in (b, c)", "a in (a, b)", "a < b and b < c",
        "(a < b and b < c) and a == a", "a < b and b < c and a == a", "a < b or b < a", "a < b and (b < a or a is nothing)",
        "a < b or b < c and a == a", "min(a, b) < c", "not (a < b or b < c)", "nothing is nothing",
    )
    terms = ("x", "0", "nothing", "min(low, x)", "max(x, min(x, 0))", "min(min(x, x), min(0, x))", "min(min(low, x), min(low, x))")
    tests = (
        "bad", "x < low", "((x < low))", "not x < low", "not (not ((x < x)))", "total == total", "x == x", "x is nothing",
        "nothing is nothing and not nothing is nothing", "x in (low)", "x in (low, 0)", "x in (x, low) or 0 in (min(x, 0), x, low)",
        "x < low and low < 0", "x < low and low < 0 and x == x", "(x < low and low < 0) and (x == x)",
        "bad and (x < low and low < high) and bad", "x < low or low < x", "(x < low or (low < x)) and x < low or low < high and x == x",
        "x < low and (low < x or x is nothing)", "not (x < low or low < 0) and not x < low", "min(x, 0) < max(0, min(low, low))",
        "((x < low) and ((low < 0))) or (not (x < low)) or (x < low and (low < 0))", "total != total or bad and (x < x)",
    )

    def test_all_of_them(self):
        many = 0
        lines = [f"low = {term} if {test}" for term in self.terms for test in self.tests]
        lines += [f"{action} if {test}" for action in ("skip", "set bad") for test in self.tests]
        lines += [f"{action} {term}" for action in ("low =", "total +=", "total -=") for term in self.terms]
        for left in self.lefts:
            for right in ("min(a, 0)", "max(a, a)", "nothing", "0 < a", "not (a in (0, a))", "nothing < 0 or 0 < 0"):
                try:
                    rule = Rule(f"{left} -> {right}")
                except BadRule as error:
                    self.assertIn(error.side, (2, 3))
                    continue
                for line in lines:
                    one = program(line)
                    expected = by_python_rewritten(line, str(rule))
                    self.assertEqual(matches(one, rule), len(expected), (line, str(rule)))
                    for number, fresh in enumerate(expected):
                        self.assertEqual(rewritten(one, rule, number), program(fresh), (line, str(rule), number))
                        many += 1
        self.assertGreater(many, 5000)


class Promise(unittest.TestCase):
    """Rewriting by a safe rule changes no answer (3)."""

    programs = (
        Program.of("keep low", "sum total", "low = x if low is nothing or x < low", "low = min(min(low, x), low) if x in (low, 0)",
                   "total += max(x, min(x, low)) if not (x != before and before == before)", "answer all = total",
                   "answer least = low"),
        Program.of("keep low", "keep high", "flag bad", "place at", "low = max(low, nothing) if low <= x or bad",
                   "high = min(low, low) if x == x and low < x", "set bad if x == x and x == low and low != 0",
                   "at = here if (x in (high, low)) or not not x < 0", "low = x if low is nothing",
                   "answer all = told at if bad else low", "answer top = high"),
    )
    texts = ("", "5", "?a", "5 ?a 3", "?a 5 ?b 0 5", "0 -2 ?a ?a -2 7", "3 3 ?b 3 -1 ?a 0")

    def test_runs_and_comparing(self):
        many = 0
        for one in self.programs:
            for rule in book([Rule(text) for text in (*SAFE, *FOR_NUMBERS)]):
                for number in range(matches(one, rule)):
                    other = rewritten(one, rule, number)
                    many += str(one) != str(other)
                    for text in self.texts:
                        series = Series.read(text)
                        self.assertEqual(repr(run(one, series).answers), repr(run(other, series).answers), (str(rule), number))
                    try:
                        self.assertTrue(compare(one, other))
                    except TooMany:
                        pass
        self.assertGreater(many, 15)

    def test_rules_that_are_not_safe_change_some(self):
        one = Program.of("keep low = 0", "low = x if x < low", "answer least = low")
        other = rewritten(one, Rule("a < b -> not b <= a"), 0)
        self.assertFalse(compare(one, other))
        self.assertTrue(compare(one, other, unnumbered=False))


if __name__ == "__main__":
    unittest.main()
