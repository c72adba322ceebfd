"""Numbers, unnumbered values, nothing, and results (points 4, 5, 6 and 18)."""

import operator
import unittest

from unnumbered.series import Series
from unnumbered.values import (
    Told, Unnumbered, agree, greatest, holds, is_entry, is_number, is_word, least, same,
)

A = Unnumbered("a")
OTHER_A = Unnumbered("a")
B = Unnumbered("bcdefghi")
LONG = 10 ** 400 - 1
ENTRIES = [0, 1, -1, 7, -7, LONG, -LONG, A, OTHER_A, B]
NO_ENTRIES = [True, False, None, "a", "?a", "", [], [1], (), (A,), Told(1), Series([1])]
SIGNS = {
    "<": operator.lt, "<=": operator.le, ">": operator.gt, ">=": operator.ge,
    "==": operator.eq, "!=": operator.ne,
}
ARITHMETIC = (operator.add, operator.sub, operator.mul, operator.floordiv, operator.mod)


class Kinds(unittest.TestCase):
    def test_is_number(self):
        for thing in (0, 1, -1, LONG, -LONG):
            self.assertIs(is_number(thing), True)
        for thing in (*NO_ENTRIES, A):
            self.assertIs(is_number(thing), False)

    def test_is_entry(self):
        for thing in ENTRIES:
            self.assertIs(is_entry(thing), True)
        for thing in NO_ENTRIES:
            self.assertIs(is_entry(thing), False)

    def test_is_word(self):
        for text in ("a", "z", "abcdefgh"):
            self.assertTrue(is_word(text), text)
        for text in ("", "abcdefghi", "A", "aB", "a1", "a b", "1", " ", "a\n", "\u00e9", "\u00aa"):
            self.assertFalse(is_word(text), text)


class Comparisons(unittest.TestCase):
    def check(self, one, other):
        for sign, compare in SIGNS.items():
            self.assertIs(compare(one, other), sign == "!=", (one, sign, other))

    def test_with_any_entry_on_either_side(self):
        for entry in ENTRIES:
            self.check(A, entry)
            self.check(entry, A)

    def test_with_itself(self):
        self.check(A, A)

    def test_equality_with_anything(self):
        for thing in (*NO_ENTRIES, {}, {1: 2}, 1.5, object()):
            self.assertIs(A == thing, False)
            self.assertIs(thing == A, False)
            self.assertIs(A != thing, True)
            self.assertIs(thing != A, True)

    def test_order_with_other_things_is_no_comparison(self):
        for thing in ("a", [], Told(1)):
            for compare in (operator.lt, operator.le, operator.gt, operator.ge):
                with self.assertRaises(TypeError):
                    compare(A, thing)

    def test_list_finds_the_same_object_alone(self):
        self.assertTrue(A in [1, A])
        self.assertFalse(OTHER_A in [1, A])
        self.assertEqual([3, OTHER_A, A].index(A), 2)

    def test_true_as_a_condition(self):
        self.assertIs(bool(A), True)
        self.assertEqual("yes" if A else "no", "yes")


class Arithmetic(unittest.TestCase):
    def check(self, result, name, *others):
        self.assertIs(type(result), Unnumbered)
        self.assertEqual(result.name, name)
        for other in others:
            self.assertIsNot(result, other)

    def test_with_numbers_on_either_side(self):
        for work in ARITHMETIC:
            for number in (0, 1, -3, LONG):
                self.check(work(A, number), "a", A)
                self.check(work(number, A), "a", A)

    def test_with_unnumbered_values_takes_the_left_name(self):
        for work in ARITHMETIC:
            self.check(work(A, B), "a", A, B)
            self.check(work(B, A), B.name, A, B)
            self.check(work(A, A), "a", A)
            self.check(work(A, OTHER_A), "a", A, OTHER_A)

    def test_with_one_side(self):
        self.check(-A, "a", A)
        self.check(+A, "a", A)
        self.check(abs(B), B.name, B)

    def test_spoils_a_total(self):
        total = 5
        total += A
        self.check(total, "a", A)
        total += B
        total -= 3
        self.check(total, "a")
        self.check(sum([1, B, 2, A]), B.name)

    def test_with_other_things_fails(self):
        for work in ARITHMETIC:
            for thing in (None, True, [], (), Told(1), Series([1])):
                with self.assertRaises(TypeError):
                    work(A, thing)
                with self.assertRaises(TypeError):
                    work(thing, A)

    def test_changes_nothing(self):
        value = Unnumbered("a")
        self.check(value + 1 - B, "a", value)
        self.assertEqual((value.name, B.name), ("a", "bcdefghi"))


class Texts(unittest.TestCase):
    def test_unnumbered(self):
        self.assertEqual((str(A), repr(A), A.name), ("?a", "Unnumbered('a')", "a"))
        self.assertEqual((str(B), repr(B)), ("?bcdefghi", "Unnumbered('bcdefghi')"))
        self.assertEqual(Unnumbered(name="q").name, "q")

    def test_told(self):
        self.assertEqual((repr(Told(3)), repr(Told(None))), ("Told(3)", "Told(None)"))
        self.assertEqual((Told(3).place, Told(place=None).place), (3, None))


class TheSame(unittest.TestCase):
    def test_same(self):
        for one, other in ((0, 0), (LONG, 10 ** 400 - 1), (A, A), (A, OTHER_A), (None, None)):
            self.assertIs(same(one, other), True)
            self.assertIs(same(other, one), True)

    def test_not_same(self):
        pairs = ((0, 1), (1, -1), (A, B), (A, 0), (0, None), (A, None), (LONG, LONG - 1))
        for one, other in pairs:
            self.assertIs(same(one, other), False)
            self.assertIs(same(other, one), False)

    def test_by_name(self):
        self.assertTrue(same(one=1, other=1))


class LeastAndGreatest(unittest.TestCase):
    def test_do_what_python_does(self):
        for one in ENTRIES:
            for other in ENTRIES:
                self.assertIs(least(one, other), min(one, other))
                self.assertIs(greatest(one, other), max(one, other))

    def test_numbers(self):
        self.assertEqual([least(1, 2), least(2, 1), greatest(1, 2), greatest(2, 1)], [1, 1, 2, 2])

    def test_first_argument_stays_where_nothing_compares(self):
        for function in (least, greatest):
            for one, other in ((A, 1), (1, A), (A, OTHER_A), (None, 1), (1, None), (None, A)):
                self.assertIs(function(one, other), one)
            self.assertIs(function(None, None), None)

    def test_by_name(self):
        self.assertEqual([least(one=1, other=2), greatest(one=1, other=2)], [1, 2])


class Holds(unittest.TestCase):
    def test_entries_compare_as_in_python(self):
        for sign, compare in SIGNS.items():
            for one in ENTRIES:
                for other in ENTRIES:
                    self.assertIs(holds(sign, one, other), compare(one, other))

    def test_nothing_compares_with_nothing(self):
        for sign in SIGNS:
            for value in (None, *ENTRIES):
                self.assertIs(holds(sign, None, value), sign == "!=")
                self.assertIs(holds(sign, value, None), sign == "!=")

    def test_by_name(self):
        self.assertIs(holds(sign="<", one=1, other=2), True)


class Results(unittest.TestCase):
    AGREE = (
        (True, True), (False, False), (0, 0), (-5, -5), (A, OTHER_A), (None, None),
        (Told(3), Told(3)), (Told(None), Told(None)), (Told(0), Told(0)),
        ((1, 2), (1, 2)), ((A, 0), (OTHER_A, 0)), ((None, 1), (None, 1)),
    )
    DISAGREE = (
        (True, False), (True, 1), (False, 0), (False, None), (0, 1), (0, None), (A, B), (A, None),
        (A, 0), (Told(3), Told(4)), (Told(0), Told(None)), (Told(3), 3), (Told(None), None),
        (Told(1), True), ((1, 2), (1, 3)), ((1, 2), (2, 2)), ((A, 0), (B, 0)), ((1, 2), 1),
        ((1, True), (1, 1)), ((1, 2), Told(1)), ((1, 2), None), ((A, 1), A), ((1, 2), True),
    )

    def test_agree(self):
        for one, other in self.AGREE:
            self.assertIs(agree(one, other), True, (one, other))
            self.assertIs(agree(other, one), True, (one, other))

    def test_disagree(self):
        for one, other in self.DISAGREE:
            self.assertIs(agree(one, other), False, (one, other))
            self.assertIs(agree(other, one), False, (one, other))

    def test_tuples_of_two_items_alone(self):
        self.assertFalse(agree((1,), (1,)))
        self.assertFalse(agree((1, 2, 3), (1, 2, 3)))
        self.assertFalse(agree((1, 2), (1, 2, 3)))

    def test_by_name(self):
        self.assertTrue(agree(one=True, other=True))

    def test_told_equality(self):
        self.assertTrue(Told(2) == Told(2))
        self.assertTrue(Told(None) == Told(None))
        self.assertTrue(Told(0) != Told(None))
        self.assertTrue(Told(0) != Told(1))
        for thing in (2, None, (2,), "Told(2)", A, Series([2])):
            self.assertFalse(Told(2) == thing)
            self.assertTrue(Told(2) != thing)
            self.assertFalse(thing == Told(2))


if __name__ == "__main__":
    unittest.main()
