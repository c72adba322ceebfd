"""Tables, groups, joins and runs by group (points 36 to 39)."""

import inspect
import itertools
import unittest

from unnumbered.errors import BadSeries, BadWay, NoKey
from unnumbered.judging import judge
from unnumbered.keyed import Keyed, grouped, joined, run_grouped
from unnumbered.programs import Program
from unnumbered.running import Outcome, run
from unnumbered.series import Series
from unnumbered.values import Told, Unnumbered, same

A = Unnumbered("a")
B = Unnumbered("b")
WAYS = ("object", "one", "each", "leave")
JOINS = ("object", "equal", "one")
NO_WAYS = (None, True, 0, "", "Object", "object ", "none", ["object"], ("object",), A, Told(None), Series(()), (A,), (), [])
ENTRIES = (0, 1, -2, A, B)


def series(text):
    return Series.read(text)


class Tables(unittest.TestCase):
    def test_empty(self):
        table = Keyed()
        self.assertEqual((len(table), list(table), table.worths(), table.total()), (0, [], [], 0))
        for key in (0, 5, A):
            self.assertIs(key in table, False)
            with self.assertRaises(NoKey) as caught:
                table[key]
            self.assertIs(caught.exception.key, key)

    def test_numbers_are_found_if_they_are_equal(self):
        table = Keyed()
        table[10 ** 399] = 4
        table[0] = 5
        table[-7] = 6
        table[int("1" + 399 * "0")] += 3
        table[0] = -5
        self.assertEqual((list(table), table.worths(), table.total()), ([10 ** 399, 0, -7], [7, -5, 6], 8))
        self.assertEqual([table[key] for key in (-7, 0, 10 ** 399)], [6, -5, 7])
        self.assertTrue(all(key in table for key in table))
        self.assertFalse(7 in table or 1 in table)

    def test_unnumbered_keys_are_found_if_they_are_the_same_object(self):
        table, twin = Keyed(), Unnumbered("a")
        table[A] = 1
        table[twin] = 2
        self.assertEqual((len(table), table[A], table[twin], table.worths()), (2, 1, 2, [1, 2]))
        table[A] = 5
        self.assertEqual((len(table), table.worths(), table.total()), (2, [5, 2], 7))
        self.assertEqual([key is other for key, other in zip(table, (A, twin))], [True, True])
        other = Unnumbered("a")
        self.assertIs(other in table, False)
        self.assertIs(A in table, True)
        with self.assertRaises(NoKey) as caught:
            table[other]
        self.assertIs(caught.exception.key, other)
        self.assertEqual(len(table), 2)

    def test_as_a_list_finds(self):
        twin = Unnumbered("a")
        held = [3, A, 0, B]
        table = Keyed()
        for worth, key in enumerate(held):
            table[key] = worth
        for key in (0, 1, 2, 3, -3, A, B, twin, Unnumbered("c")):
            self.assertEqual(key in table, key in held)
            if key in held:
                self.assertEqual(table[key], held.index(key))

    def test_order_in_which_keys_were_first_put_in(self):
        table = Keyed()
        for worth, key in enumerate([5, A, 3, 5, B, A, 4]):
            table[key] = worth
        self.assertEqual([str(key) for key in table], ["5", "?a", "3", "?b", "4"])
        self.assertEqual(table.worths(), [3, 5, 2, 4, 6])
        self.assertEqual(table.total(), 20)

    def test_keys_are_the_objects_that_were_put_in(self):
        entries = Series.of(7, A, B, Unnumbered("a"))
        table = Keyed()
        for entry in entries:
            table[entry] = 1
        self.assertEqual(len(table), 3)
        self.assertTrue(all(any(key is entry for entry in (A, B)) for key in list(table)[1:]))

    def test_results_are_new(self):
        table = Keyed()
        table[1] = 2
        table.worths().append(7)
        list(table).clear()
        self.assertEqual((table.worths(), list(table), len(table)), ([2], [1], 1))

    def test_tables_share_nothing(self):
        one, other = Keyed(), Keyed()
        one[A] = 1
        other[5] = 2
        self.assertEqual((len(one), len(other), A in other, 5 in one), (1, 1, False, False))

    def test_a_key_that_is_not_found_changes_nothing(self):
        table = Keyed()
        table[1] = 2
        for key in (2, A):
            with self.assertRaises(NoKey):
                table[key]
        self.assertEqual((list(table), table.worths()), ([1], [2]))

    def test_worths_of_400_digits(self):
        table = Keyed()
        table[A], table[1] = 10 ** 399, -10 ** 399 + 1
        self.assertEqual(table.total(), 1)


class Groups(unittest.TestCase):
    def groups(self, text, way):
        return [("-" if key is None else str(key), places) for key, places in grouped(series(text), way)]

    def test_four_ways(self):
        text = "5 ?a 5 ?b ?a 0 ?b 5"
        self.assertEqual(self.groups(text, "object"), [("5", [0, 2, 7]), ("?a", [1, 4]), ("?b", [3, 6]), ("0", [5])])
        self.assertEqual(self.groups(text, "one"), [("5", [0, 2, 7]), ("-", [1, 3, 4, 6]), ("0", [5])])
        self.assertEqual(self.groups(text, "each"), [("5", [0, 2, 7]), ("?a", [1]), ("?b", [3]), ("?a", [4]), ("0", [5]),
                                                     ("?b", [6])])
        self.assertEqual(self.groups(text, "leave"), [("5", [0, 2, 7]), ("0", [5])])

    def test_first_places(self):
        self.assertEqual(self.groups("?a 5 ?b", "one"), [("-", [0, 2]), ("5", [1])])
        self.assertEqual(self.groups("?a 5 ?a 4", "leave"), [("5", [1]), ("4", [3])])

    def test_without_entries(self):
        for way in WAYS:
            self.assertEqual(grouped(Series(()), way), [])
        self.assertEqual(grouped(series("?a ?b"), "leave"), [])

    def test_keys(self):
        keys = Series.of(Unnumbered("a"), 5, A, 10 ** 399)
        for way in ("object", "each"):
            self.assertTrue(all(group[0] is keys[group[1][0]] for group in grouped(keys, way)))
        self.assertIs(grouped(keys, "one")[0][0], None)

    def test_kinds(self):
        for way in WAYS:
            found = grouped(series("1 ?a 1 ?a"), way)
            self.assertIs(type(found), list)
            self.assertEqual({(type(group), len(group), type(group[1])) for group in found}, {(tuple, 2, list)})

    def test_every_series_of_four(self):
        for entries in itertools.product(ENTRIES, repeat=4):
            for way in WAYS:
                rest = list(range(4))
                expected = []
                while rest:
                    key = entries[rest[0]]
                    places = [place for place in rest if self.are_together(rest[0], place, entries, way)]
                    rest = [place for place in rest if place not in places]
                    if isinstance(key, int) or way != "leave":
                        expected.append((None if way == "one" and not isinstance(key, int) else key, places))
                found = grouped(Series(entries), way)
                self.assertEqual([(repr(key), places) for key, places in found],
                                 [(repr(key), places) for key, places in expected])

    def are_together(self, one, other, entries, way):
        if isinstance(entries[one], int) or isinstance(entries[other], int):
            return entries[one] == entries[other]
        return one == other or way == "one" or way == "object" and same(entries[one], entries[other])

    def test_wrong_ways(self):
        for way in (*NO_WAYS, "equal"):
            with self.assertRaises(BadWay) as caught:
                grouped(Series(()), way)
            self.assertIs(caught.exception.way, way)

    def test_250_keys(self):
        self.assertEqual(len(grouped(Series(list(range(250))), "leave")), 250)
        self.assertEqual(len(grouped(Series(250 * [A]), "each")), 250)

    def test_new_each_time(self):
        keys = series("1 ?a 1")
        found = grouped(keys, "object")
        found[0][1].append(7)
        found.clear()
        self.assertEqual(self.groups("1 ?a 1", "object"), [("1", [0, 2]), ("?a", [1])])
        self.assertEqual(grouped(keys, "object")[0], (1, [0, 2]))
        self.assertEqual(keys, series("1 ?a 1"))

    def test_by_name(self):
        self.assertEqual(grouped(way="one", keys=series("?a")), [(None, [0])])


class Joins(unittest.TestCase):
    def test_example_of_the_text(self):
        one, other = series("1 ?a"), series("?a 1 ?b")
        self.assertEqual([joined(one, other, "object"), joined(one, other, "equal"), joined(one, other, "one")],
                         [[(0, 1), (1, 0)], [(0, 1)], [(0, 1), (1, 0), (1, 2)]])

    def test_every_two_series_of_two(self):
        for left, right in itertools.product(itertools.product(ENTRIES, repeat=2), repeat=2):
            for way in JOINS:
                expected = [
                    (i, j) for i, j in itertools.product(range(2), repeat=2)
                    if left[i] == right[j] or way == "object" and same(left[i], right[j])
                    or way == "one" and not isinstance(left[i], int) and not isinstance(right[j], int)
                ]
                self.assertEqual(joined(Series(left), Series(right), way), expected)

    def test_the_same_objects_are_not_equal(self):
        one = Series.of(A, 3, A)
        self.assertEqual(joined(one, one, "equal"), [(1, 1)])
        self.assertEqual(joined(one, one, "object"), [(0, 0), (0, 2), (1, 1), (2, 0), (2, 2)])
        self.assertEqual(joined(one, Series.of(Unnumbered("a")), "object"), [(0, 0), (2, 0)])

    def test_lengths(self):
        for way in JOINS:
            self.assertEqual(joined(Series(()), series("1 ?a"), way), [])
            self.assertEqual(joined(series("1 ?a"), Series(()), way), [])
        self.assertEqual(joined(series("5 6 5"), series("5"), "equal"), [(0, 0), (2, 0)])
        self.assertEqual(joined(series("5"), series("5 6 5"), "one"), [(0, 0), (0, 2)])
        self.assertEqual(len(joined(Series(250 * [A]), Series(250 * [B]), "one")), 62500)

    def test_kinds_and_new_each_time(self):
        one = series("1 ?a")
        found = joined(one, one, "object")
        self.assertEqual((type(found), {type(pair) for pair in found}), (list, {tuple}))
        found.clear()
        self.assertEqual(joined(one, one, "object"), [(0, 0), (1, 1)])

    def test_wrong_ways(self):
        for way in (*NO_WAYS, "each", "leave"):
            with self.assertRaises(BadWay) as caught:
                joined(Series(()), Series(()), way)
            self.assertIs(caught.exception.way, way)

    def test_by_name(self):
        self.assertEqual(joined(way="equal", right=series("2 1"), left=series("1")), [(0, 1)])


class Runs(unittest.TestCase):
    one = Program.of("keep low", "place at", "sum total", "count many", "low = x if low is nothing or x < low",
                     "at = here if x == low", "total += x", "many += 1", "answer least = low", "answer at = at",
                     "answer all = total by many")

    def test_entries_keep_their_places(self):
        found = run_grouped(self.one, series("1 ?a 1 2 ?a"), series("5 6 4 ?b 7"), "object")
        self.assertEqual((type(found), {type(row) for row in found}, {type(row[1]) for row in found}), (list, {tuple}, {Outcome}))
        self.assertEqual([(str(key), repr(outcome.answers)) for key, outcome in found], [
            ("1", "{'least': 4, 'at': 2, 'all': (9, 2)}"),
            ("?a", "{'least': 6, 'at': 1, 'all': (13, 2)}"),
            ("2", "{'least': Unnumbered('b'), 'at': None, 'all': (Unnumbered('b'), 1)}"),
        ])

    def test_ways(self):
        keys, entries = series("?a 1 ?b ?a"), series("5 6 7 8")
        for way, expected in (
            ("object", [("?a", 13), ("1", 6), ("?b", 7)]), ("one", [("None", 20), ("1", 6)]),
            ("each", [("?a", 5), ("1", 6), ("?b", 7), ("?a", 8)]), ("leave", [("1", 6)]),
        ):
            found = run_grouped(self.one, keys, entries, way)
            self.assertEqual([(str(key), outcome.sums["total"]) for key, outcome in found], expected)

    def test_groups_are_those_of_the_keys(self):
        keys, entries = series("3 ?a 3 ?b ?a 0"), series("?a 1 2 ?c ?a 5")
        for way in WAYS:
            found = run_grouped(self.one, keys, entries, way)
            groups = grouped(keys, way)
            self.assertEqual([repr(key) for key, _ in found], [repr(key) for key, _ in groups])
            for (_, outcome), (_, places) in zip(found, groups):
                alone = run(self.one, Series([entries[place] for place in places]))
                self.assertEqual((repr(outcome.keeps), repr(outcome.parts), outcome.counts, repr(outcome.held)),
                                 (repr(alone.keeps), repr(alone.parts), alone.counts, repr(alone.held)))
                at = alone.places["at"]
                self.assertEqual(outcome.places["at"], None if at is None else places[at])

    def test_steps_leave_and_before_are_of_each_group(self):
        one = Program.of("keep last", "count many", "steps shift", "last = before", "many += 1", "leave if x == 0", "answer a = last",
                         "answer b = many")
        found = run_grouped(one, series("1 2 1 2 1 2 1"), series("0 5 6 7 8 9 3"), "leave")
        self.assertEqual([(key, outcome.answers, outcome.is_left) for key, outcome in found],
                         [(1, {"a": None, "b": 2}, True), (2, {"a": 5, "b": 3}, False)])

    def test_without_entries(self):
        for way in WAYS:
            self.assertEqual(run_grouped(self.one, Series(()), Series(()), way), [])
        self.assertEqual(run_grouped(self.one, series("?a"), series("5"), "leave"), [])

    def test_errors_and_their_order(self):
        for way in (*NO_WAYS, "equal"):
            for keys in ("1 ?a", "1"):
                with self.assertRaises(BadWay) as caught:
                    run_grouped(self.one, series(keys), series("5 6"), way)
                self.assertIs(caught.exception.way, way)
        for keys, entries in (("1", "5 6"), ("1 2 3", "5 6"), ("", "5"), ("5", "")):
            for way in WAYS:
                with self.assertRaises(BadSeries) as caught:
                    run_grouped(self.one, series(keys), series(entries), way)
                self.assertEqual(caught.exception.at, -1)

    def test_as_wished_in_every_group(self):
        one = Program.of("keep low", "flag bad", "place at", "low = x if x == x and (low is nothing or x < low)",
                         "at = here if x != x and not bad", "set bad if x != x", "answer least = low",
                         "answer tells = told at if bad else 0")
        self.assertTrue(judge(one, {"least": "skip", "tells": "first"}))
        keys, entries = series("1 ?a 1 ?b ?a 2 ?b 1 ?a"), series("?a 5 3 ?b 2 ?c ?c ?a ?b")
        for way in WAYS:
            for (_, outcome), (_, places) in zip(run_grouped(one, keys, entries, way), grouped(keys, way)):
                numbers = [entries[place] for place in places if isinstance(entries[place], int)]
                marks = [place for place in places if not isinstance(entries[place], int)]
                self.assertEqual(outcome.answers["least"], min(numbers, default=None))
                self.assertEqual(outcome.answers["tells"], Told(marks[0]) if marks else 0)

    def test_sums_of_groups_add_up(self):
        for entries in itertools.product((1, 2, A), repeat=4):
            whole = run(self.one, series("5 6 7 8")).sums["total"]
            for way in WAYS[:3]:
                found = run_grouped(self.one, Series(entries), series("5 6 7 8"), way)
                self.assertEqual(sum(outcome.sums["total"] for _, outcome in found), whole)

    def test_outcomes_are_new(self):
        keys, entries = series("1 ?a"), series("5 6")
        found = run_grouped(self.one, keys, entries, "object")
        found[0][1].answers.clear()
        found[0][1].parts["total"].clear()
        self.assertEqual(found[1][1].parts, {"total": {6: 1}})
        again = run_grouped(self.one, keys, entries, "object")
        self.assertEqual((len(again[0][1].answers), again[0][1].parts), (3, {"total": {5: 1}}))
        self.assertEqual((keys, entries), (series("1 ?a"), series("5 6")))

    def test_by_name(self):
        self.assertEqual(str(inspect.signature(run_grouped)), "(program, keys, series, way)")
        self.assertEqual(run_grouped(way="one", series=Series(()), keys=Series(()), program=self.one), [])

    def test_many_groups(self):
        entries = Series(list(range(250)))
        found = run_grouped(self.one, Series(250 * [A]), entries, "each")
        self.assertEqual([outcome.answers["at"] for _, outcome in found], list(range(250)))
        found = run_grouped(self.one, Series(250 * [A]), entries, "one")
        self.assertEqual([outcome.answers["all"] for _, outcome in found], [(31125, 250)])


if __name__ == "__main__":
    unittest.main()
