"""Series: made, read, refused and asked (points 2 and 7)."""

import unittest

from unnumbered.errors import BadSeries, NoKey
from unnumbered.programs import Program
from unnumbered.series import Series
from unnumbered.values import Told, Unnumbered

LONG = 10 ** 400 - 1


class SeriesTest(unittest.TestCase):
    def refused(self, at, make, *arguments):
        with self.assertRaises(BadSeries) as caught:
            make(*arguments)
        self.assertEqual(caught.exception.at, at)


class Made(SeriesTest):
    def test_from_a_list_and_a_tuple(self):
        mark = Unnumbered("a")
        for entries in ([3, mark, -4], (3, mark, -4)):
            series = Series(entries)
            self.assertIs(type(series.entries), tuple)
            self.assertEqual(series.entries[0::2], (3, -4))
            self.assertIs(series.entries[1], mark)

    def test_of_its_entries(self):
        mark = Unnumbered("a")
        series = Series.of(3, mark)
        self.assertIs(type(series), Series)
        self.assertIs(series.entries[1], mark)
        self.assertEqual(Series.of().entries, ())

    def test_by_name(self):
        self.assertEqual(Series(entries=[1]).entries, (1,))
        self.assertEqual(Series.read(text="1").entries, (1,))

    def test_copies_its_argument(self):
        entries = [1, 2]
        series = Series(entries)
        entries.append(3)
        entries[0] = 9
        self.assertEqual(series.entries, (1, 2))

    def test_does_not_change_its_argument(self):
        one, other = Unnumbered("a"), Unnumbered("a")
        entries = [one, other]
        Series(entries)
        self.assertIs(entries[0], one)
        self.assertIs(entries[1], other)

    def test_one_object_for_each_name_the_first(self):
        one, two, three, other = [Unnumbered(name) for name in "aaab"]
        series = Series([5, one, other, two, three])
        self.assertIs(series.entries[1], one)
        self.assertIs(series.entries[2], other)
        self.assertIs(series.entries[3], one)
        self.assertIs(series.entries[4], one)

    def test_neither_a_list_nor_a_tuple(self):
        for thing in (None, 3, True, "", "1 2", Unnumbered("a"), Series([1]), Told(1)):
            self.refused(-1, Series, thing)

    def test_250_and_251_entries(self):
        self.assertEqual(len(Series([1] * 250)), 250)
        self.assertEqual(len(Series.of(*[1] * 250)), 250)
        self.refused(-1, Series, [1] * 251)
        self.refused(-1, Series.of, *[1] * 251)

    def test_too_many_goes_ahead_of_a_wrong_entry(self):
        self.refused(-1, Series, [None] + [1] * 250)
        self.refused(0, Series, [None] + [1] * 249)

    def test_first_wrong_entry(self):
        mark = Unnumbered("a")
        self.refused(0, Series, [True])
        self.refused(1, Series, [0, False, None])
        self.refused(2, Series.of, 1, mark, "3", None)
        self.refused(249, Series, [1] * 249 + [None])
        for thing in (None, "1", "?a", [], [1], (), Told(3), Series([1])):
            self.refused(1, Series, (mark, thing))

    def test_long_integers(self):
        self.assertEqual(Series([LONG, -LONG]).entries, (LONG, -LONG))


class Read(SeriesTest):
    def test_words(self):
        series = Series.read("7 ?a -8 0 ?abcdefgh")
        self.assertEqual([series[0], series[2], series[3]], [7, -8, 0])
        self.assertEqual([series[1].name, series[4].name], ["a", "abcdefgh"])

    def test_empty_text_is_the_empty_series(self):
        self.assertEqual(Series.read("").entries, ())

    def test_one_object_for_each_name(self):
        series = Series.read("?a 1 ?a ?b")
        self.assertIs(series[0], series[2])
        self.assertIsNot(series[0], series[3])

    def test_no_string(self):
        for thing in (None, 3, True, [], ["1"], ("1", "2"), Series([1]), Unnumbered("a")):
            self.refused(-1, Series.read, thing)

    def test_250_and_251_words(self):
        self.assertEqual(len(Series.read(" ".join(["0"] * 250))), 250)
        self.refused(-1, Series.read, " ".join(["0"] * 251))

    def test_too_many_goes_ahead_of_a_wrong_word(self):
        self.refused(-1, Series.read, "x" + " 0" * 250)
        self.refused(0, Series.read, "x" + " 0" * 249)
        self.refused(-1, Series.read, " " * 250)
        self.refused(0, Series.read, " " * 249)

    def test_wrong_words(self):
        words = (
            "-0", "+1", "01", "-01", "00", "--1", "-", "+", "1-", "1.0", "1_0", "1,000", "0x1",
            "?", "??a", "?A", "?a1", "?1", "?abcdefghi", "a", "a?", "-?a", "None", "True", "1\n",
            "1\t", "\t", "\n", "\u0661", "\u00b2", "?\u00e9",
        )
        for word in words:
            self.refused(0, Series.read, word)
            self.refused(1, Series.read, f"1 {word} 2 x")

    def test_empty_words(self):
        self.refused(0, Series.read, " ")
        self.refused(0, Series.read, " 1")
        self.refused(1, Series.read, "1 ")
        self.refused(1, Series.read, "1  2")

    def test_300_and_301_digits(self):
        word = "9" * 300
        self.assertEqual(Series.read(f"{word} -{word}").entries, (int(word), -int(word)))
        self.refused(1, Series.read, f"1 {word}9")
        self.refused(1, Series.read, f"1 -{word}9")
        self.refused(0, Series.read, "1" * 5000)


class Asked(SeriesTest):
    def test_length_and_iteration(self):
        mark = Unnumbered("a")
        series = Series([3, mark, 3])
        self.assertEqual(len(series), 3)
        entries = list(series)
        self.assertEqual([entries[0], entries[2]], [3, 3])
        self.assertIs(entries[1], mark)
        self.assertEqual((len(Series([])), list(Series([]))), (0, []))

    def test_entry_at_a_place(self):
        mark = Unnumbered("a")
        series = Series([3, mark])
        self.assertEqual(series[0], 3)
        self.assertIs(series[1], mark)

    def test_no_entry_at_a_place(self):
        for series, place in ((Series([3, 4]), 2), (Series([3, 4]), -1), (Series([]), 0)):
            with self.assertRaises(NoKey) as caught:
                series[place]
            self.assertEqual(caught.exception.key, place)

    def test_contains_the_same_value(self):
        series = Series.read("3 ?a -1 0")
        for thing in (3, -1, 0, Unnumbered("a")):
            self.assertIs(thing in series, True)

    def test_does_not_contain_other_things(self):
        series = Series.read("3 ?a 1 0")
        for thing in (4, Unnumbered("b"), True, False, None, "3", "?a", [], [3], series, Told(3)):
            self.assertIs(thing in series, False)
        self.assertIs(None in Series([]), False)

    def test_numbers(self):
        series = Series.read("3 ?a -1 3 ?b 0")
        self.assertEqual(series.numbers(), [3, -1, 3, 0])
        self.assertEqual(Series([]).numbers(), [])

    def test_marks(self):
        self.assertEqual(Series.read("3 ?a -1 ?b ?a").marks(), [1, 3, 4])
        self.assertEqual(Series.read("3 4").marks(), [])

    def test_lists_are_new(self):
        series = Series.read("3 ?a")
        series.numbers().append(4)
        series.marks().append(4)
        self.assertEqual((series.numbers(), series.marks()), ([3], [1]))


class Added(SeriesTest):
    def test_entries_of_both(self):
        one, other = Series.read("1 ?a"), Series.read("2 ?b")
        both = one + other
        self.assertIs(type(both), Series)
        self.assertEqual(str(both), "1 ?a 2 ?b")
        self.assertEqual((str(one), str(other)), ("1 ?a", "2 ?b"))
        self.assertEqual(str(one + Series([])), "1 ?a")

    def test_one_object_for_each_name_the_first(self):
        one, other = Series.read("?a"), Series.read("?a ?b")
        both = one + other
        self.assertIs(both[0], one[0])
        self.assertIs(both[1], one[0])
        self.assertIs(both[2], other[1])
        self.assertIsNot(other[0], one[0])

    def test_250_and_251_entries(self):
        self.assertEqual(len(Series([1] * 249) + Series([1])), 250)
        with self.assertRaises(BadSeries) as caught:
            Series([1] * 250) + Series([1])
        self.assertEqual(caught.exception.at, -1)


class Equal(SeriesTest):
    def test_same_entries(self):
        self.assertTrue(Series.read("1 ?a 2") == Series.read("1 ?a 2"))
        self.assertFalse(Series.read("1 ?a 2") != Series.read("1 ?a 2"))
        self.assertTrue(Series([]) == Series(()))
        self.assertTrue(Series([LONG]) == Series([10 ** 400 - 1]))

    def test_other_entries(self):
        texts = ("1 ?a 2", "1 ?b 2", "1 ?a 3", "1 ?a", "?a 1 2", "")
        for one in texts:
            for other in texts:
                self.assertIs(Series.read(one) == Series.read(other), one == other)

    def test_equal_to_nothing_of_another_class(self):
        for thing in ([1], (1,), "1", 1, None, Told(1), Unnumbered("a"), Program("answer a = 0")):
            self.assertFalse(Series([1]) == thing)
            self.assertTrue(Series([1]) != thing)
            self.assertFalse(thing == Series([1]))


class Written(SeriesTest):
    def test_str(self):
        for text in ("", "0", "-12", "?a", "3 ?a -4 0 ?abcdefgh ?a"):
            self.assertEqual(str(Series.read(text)), text)

    def test_str_writes_words_that_are_not_read(self):
        self.assertEqual(str(Series([LONG, -LONG])), f"{'9' * 400} -{'9' * 400}")
        self.refused(0, Series.read, str(Series([LONG])))

    def test_repr(self):
        self.assertEqual(repr(Series.read("3 ?a")), "Series('3 ?a')")
        self.assertEqual(repr(Series([])), "Series('')")


class Examples(SeriesTest):
    def test_of_the_document(self):
        self.assertEqual(Series.read("7 ?a 8 9").numbers(), [7, 8, 9])
        self.assertEqual(Series.read("?a 1 ?b").marks(), [0, 2])
        self.assertEqual(repr(Series.read("0 ?a -2")), "Series('0 ?a -2')")


if __name__ == "__main__":
    unittest.main()
