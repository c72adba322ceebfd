"""Mends, least sets of them, and harmless ones (points 31 to 33, and 3)."""

import inspect
import itertools
import unittest

from tests.brute import AskedToJudge, check
from unnumbered.comparing import compare
from unnumbered.errors import BadWish, NoMend, TooMany
from unnumbered.judging import is_judgement, judge
from unnumbered.mends import Mending, harmless, least_mends, mended, mends
from unnumbered.programs import Program
from unnumbered.series import Series
from unnumbered.values import Told, Unnumbered

A = Unnumbered("a")
STEPS = [("drop",), ("fill",), ("hold",)]
REGISTERS = ("keep low", "keep high", "flag bad", "sum total", "count many", "place at", "place to")
SIGNS = {"<": ">=", ">=": "<", "<=": ">", ">": "<=", "==": "!=", "!=": "=="}
TOTAL = Program.of("sum total", "total += x", "answer all = total")
ALL = {"all": "skip"}
LEAST = {"least": "skip"}


def program(*statements, steps=()):
    return Program.of(*REGISTERS, *steps, *statements, "answer least = low")


def low(*lines):
    return Program.of("keep low", *lines, "answer least = low")


def kinds(statement):
    return [mend[0] for mend in mends(program(statement)) if len(mend) == 2]


class Mends(unittest.TestCase):
    def test_order(self):
        found = mends(program("low = min(low, x) if x < low", "skip", "high = max(x, 0)", "leave if not x == x"))
        self.assertEqual(found, [
            *STEPS, ("guard", 0), ("exchange", 0), ("turn", 0), ("guard", 1), ("guard", 2), ("exchange", 2),
            ("guard", 3), ("turn", 3),
        ])
        self.assertEqual([type(mend) for mend in found], 11 * [tuple])

    def test_steps_of_the_program(self):
        for steps, many in (("drop", 3), ("drop, fill", 3), ("shift, shift", 3), ("drop, fill, hold", 0),
                            ("shift, shift, shift", 0)):
            found = mends(program("skip", steps=(f"steps {steps}",)))
            self.assertEqual(found, [*STEPS[:many], ("guard", 0)], steps)

    def test_without_statements(self):
        self.assertEqual(mends(program()), STEPS)
        self.assertEqual(mends(Program.of("answer one = 0")), STEPS)
        self.assertEqual(mends(program(steps=("steps hold, hold, hold",))), [])

    def test_ten_statements(self):
        found = mends(program(*(10 * ["low = min(low, x) if not x < low"])))
        self.assertEqual(found, STEPS + [(word, at) for at in range(10) for word in ("guard", "exchange", "turn")])

    def test_a_guard_for_each_statement(self):
        for action in ("low = x", "at = here", "at = to", "set bad", "total += x", "total -= x", "many += 1", "skip", "leave"):
            self.assertEqual(kinds(action), ["guard"], action)
            self.assertEqual(kinds(f"{action} if bad"), ["guard"], action)

    def test_exchanges_are_of_keeps_alone(self):
        for action, expected in (
            ("low = min(low, x)", True), ("high = max(x, nothing)", True), ("low = min(max(low, x), 0)", True),
            ("total += min(low, x)", False), ("total -= max(low, x)", False), ("low = high", False),
        ):
            for test in ("", " if bad", " if min(x, low) is nothing"):
                self.assertEqual("exchange" in kinds(action + test), expected, action)

    def test_turns_are_of_one_comparison(self):
        for sign in SIGNS:
            for test in (f"x {sign} low", f"not x {sign} low", f"min(x, low) {sign} 0", f"not before {sign} max(x, x)"):
                self.assertEqual(kinds(f"skip if {test}"), ["guard", "turn"], test)
        for test in ("(x < low)", "not (x < low)", "not not x < low", "(not x < low)", "x is nothing", "not x is nothing",
                     "x in (low)", "not x in (low, 0)", "bad", "not bad", "total == total", "total != total",
                     "not total == total", "x < low and low < 0", "x < low or bad", "not x < low and bad"):
            self.assertEqual(kinds(f"skip if {test}"), ["guard"], test)

    def test_a_new_list_each_time(self):
        one = program("skip")
        mends(one).clear()
        self.assertEqual(mends(one), [*STEPS, ("guard", 0)])


class Mended(unittest.TestCase):
    def changed(self, statement, *words):
        """The statement with mends of these words."""
        found = mended(program("skip", statement), [(word, 1) for word in words])
        self.assertEqual(found, program("skip", found.statements[1]))
        return found.statements[1]

    def test_none(self):
        for one in (program("low = min( x,low )if(bad)", steps=("steps fill,drop",)), Program.of("answer one = 0")):
            self.assertEqual(mended(one, []), one)
            self.assertIs(type(mended(one, [])), Program)

    def test_steps(self):
        statement = "low = x if ((x < low)) or not bad"
        for own, chosen, expected in (
            ((), ["drop"], "drop"), ((), ["fill"], "fill"), ((), ["hold"], "hold"),
            ((), ["hold", "fill", "drop"], "drop, fill, hold"), ((), ["fill", "drop"], "drop, fill"),
            (("steps shift",), ["hold"], "hold, shift"), (("steps drop, hold",), ["fill"], "fill, drop, hold"),
            (("steps fill",), ["hold", "drop"], "drop, hold, fill"), (("steps drop",), ["drop"], "drop, drop"),
        ):
            found = mended(program(statement, steps=own), [(word,) for word in chosen])
            self.assertEqual(found, program(statement, steps=(f"steps {expected}",)))

    def test_steps_without_registers_and_statements(self):
        self.assertEqual(str(mended(Program.of("answer one = 0"), [("hold",), ("drop",)])), "steps drop, hold\nanswer one = 0")

    def test_guards(self):
        for before, behind in (
            ("low = x", "low = x if x == x"),
            ("skip", "skip if x == x"),
            ("many += 1 if bad", "many += 1 if x == x and (bad)"),
            ("at = here if (x < low)", "at = here if x == x and ((x < low))"),
            ("set bad if x < low or low < 0", "set bad if x == x and (x < low or low < 0)"),
            ("leave if x == x", "leave if x == x and (x == x)"),
            ("total += x if total == total", "total += x if x == x and (total == total)"),
            ("at = to if x in (low, 0)", "at = to if x == x and (x in (low, 0))"),
            ("total -= before if not x is nothing", "total -= before if x == x and (not x is nothing)"),
        ):
            self.assertEqual(self.changed(before, "guard"), behind)

    def test_exchanges(self):
        for before, behind in (
            ("low = min(low, x)", "low = min(x, low)"),
            ("low = max(0, nothing) if bad", "low = max(nothing, 0) if bad"),
            ("low = min(min(low, x), 0)", "low = min(0, min(low, x))"),
            ("low = max(min(low, x), max(0, before))", "low = max(max(0, before), min(low, x))"),
            ("low = min(x, low) if min(x, low) < max(low, x)", "low = min(low, x) if min(x, low) < max(low, x)"),
        ):
            self.assertEqual(self.changed(before, "exchange"), behind)
            self.assertEqual(self.changed(behind, "exchange"), before)

    def test_turns(self):
        for sign, opposite in SIGNS.items():
            self.assertEqual(self.changed(f"skip if x {sign} low", "turn"), f"skip if not x {opposite} low")
            self.assertEqual(self.changed(f"skip if not x {sign} low", "turn"), f"skip if x {opposite} low")
        self.assertEqual(self.changed("low = min(x, 0) if min(x, 0) < max(low, before)", "turn"),
                         "low = min(x, 0) if not min(x, 0) >= max(low, before)")

    def test_a_guard_takes_the_turned_test(self):
        for words in itertools.permutations(("guard", "exchange", "turn")):
            self.assertEqual(self.changed("low = min(low, x) if x < low", *words),
                             "low = min(x, low) if x == x and (not x >= low)")
            self.assertEqual(self.changed("low = max(low, x) if not x == low", *words),
                             "low = max(x, low) if x == x and (x != low)")

    def test_several_statements(self):
        one = program("low = min(low, x) if x < low", "high = max(low, x)", steps=("steps shift",))
        chosen = [("turn", 0), ("exchange", 1), ("drop",), ("guard", 1)]
        for order in itertools.permutations(chosen):
            found = mended(one, list(order))
            self.assertEqual((found.steps, found.statements), (
                ("drop", "shift"), ("low = min(low, x) if not x >= low", "high = max(x, low) if x == x"),
            ))

    def test_other_lines_stay(self):
        lines = ["keep low = 0", "sum total", "keep high", "flag bad", "place at", "count many", "steps hold"]
        ends = ["answer low = told at if bad else total by many", "answer all = max(low, high)", "answer bad = bad"]
        found = mended(Program.of(*lines, "skip", *ends), [("guard", 0), ("fill",)])
        self.assertEqual(str(found).split("\n"), [*lines[:-1], "steps fill, hold", "skip if x == x", *ends])
        self.assertEqual(found.starts, (0, None))

    def test_before_is_held_still(self):
        one = low("low = before if before < x")
        self.assertTrue(mended(one, [("turn", 0)]).has_before)

    def test_mends_change_nothing_and_lists_stay(self):
        one = program("low = min(low, x)")
        text = str(one)
        chosen = [("exchange", 0), ("hold",)]
        mended(one, chosen)
        self.assertEqual((str(one), chosen, mends(one)), (
            text, [("exchange", 0), ("hold",)], [*STEPS, ("guard", 0), ("exchange", 0)],
        ))

    def test_longer_and_deeper_lines(self):
        deep = 10 * "(" + "x < low" + 10 * ")"
        line = f"low = min(low, x) if {deep}" + 13 * " and x == x"
        self.assertTrue(180 <= len(line) <= 200)
        for _ in range(12):
            one = mended(program(line), [("guard", 0)])
            line = one.statements[0]
        self.assertTrue(len(line) > 200)
        self.assertEqual(mended(one, [("guard", 0), ("exchange", 0)]).statements[0],
                         line.replace("min(low, x) if ", "min(x, low) if x == x and (") + ")")


class NoMends(unittest.TestCase):
    one = program("low = min(low, x) if x < low", "skip if bad", steps=("steps shift",))

    def no_mend(self, chosen, *, of=None):
        with self.assertRaises(NoMend) as caught:
            mended(of or self.one, chosen)
        return caught.exception.mend

    def test_other_things(self):
        things = (
            None, True, False, 0, 1, "drop", "guard", "", [], ["drop"], ["guard", 0], (), ("shift",), ("Drop",), ("drop", 0),
            ("drop", None), ("guard",), ("guard", -1), ("guard", 2), ("guard", 10), ("guard", "0"), ("guard", None),
            ("guard", A), ("guard", (0,)), ("guard", 0, 0), (0, "guard"), ("exchange", 1), ("turn", 1), ("guard", [0]),
            (("guard", 0),), ("Guard", 0), A, Told(None), Series(()), self.one, (A,), (A, 0), ((), ()),
        )
        for thing in things:
            for chosen in ([thing], [("drop",), thing], [thing, None]):
                self.assertIs(self.no_mend(chosen), thing)

    def test_true_and_false_are_no_indexes(self):
        for word in ("guard", "exchange", "turn"):
            self.assertEqual(repr(self.no_mend([(word, 0), (word, False)])), f"({word!r}, False)")
        self.assertEqual(repr(self.no_mend([("guard", True)])), "('guard', True)")

    def test_repeated(self):
        self.assertEqual(self.no_mend([("guard", 0), ("drop",), ("guard", 1), ("drop",), ("guard", 0)]), ("drop",))
        self.assertEqual(self.no_mend([("turn", 0), ("turn", 0), None]), ("turn", 0))

    def test_the_first(self):
        self.assertEqual(self.no_mend([("hold",), ("turn", 7), ("hold",), ("turn", 8)]), ("turn", 7))

    def test_steps_of_a_program_with_three(self):
        for step in STEPS:
            self.assertEqual(self.no_mend([step], of=program("skip", steps=("steps drop, drop, drop",))), step)

    def test_too_many_steps(self):
        for steps, chosen in (("drop, hold", 2), ("shift", 3), ("drop, hold", 3)):
            with self.assertRaises(TooMany) as caught:
                mended(program(steps=(f"steps {steps}",)), STEPS[:chosen])
            self.assertEqual(caught.exception.what, "steps")
        self.assertEqual(mended(program(steps=("steps shift",)), STEPS[1:]).steps, ("fill", "hold", "shift"))

    def test_no_mend_goes_ahead_of_too_many_steps(self):
        self.assertEqual(self.no_mend([*STEPS, ("guard", 2)]), ("guard", 2))
        self.assertEqual(self.no_mend([*STEPS, ("fill",)]), ("fill",))


class LeastMends(unittest.TestCase):
    def by_itself(self, one, wanted, pool):
        """The least sets and the broken ones, found by judging each set of the pool."""
        found = {}
        for many in range(len(pool) + 1):
            for indexes in itertools.combinations(range(len(pool)), many):
                found[indexes] = judge(mended(one, [pool[at] for at in indexes]), wanted)
        sets, broken = [], []
        for indexes, verdict in found.items():
            parts = [less for less in found if set(less) < set(indexes)]
            if not any(found[less] for less in parts):
                chosen = tuple(pool[at] for at in indexes)
                if verdict:
                    sets.append(chosen)
                else:
                    broken.append((chosen, len(verdict)))
        return tuple(sets), broken

    def hold(self, one, wanted, pool):
        found = least_mends(one, wanted, pool)
        self.assertIs(type(found), Mending)
        sets, broken = self.by_itself(one, wanted, pool)
        self.assertEqual(found.sets, sets)
        self.assertIs(type(found.broken), tuple)
        self.assertEqual([(chosen, len(series)) for chosen, _, series in found.broken], broken)
        for chosen, name, series in found.broken:
            self.assertIs(type(series), Series)
            self.assertTrue(is_judgement(mended(one, list(chosen)), wanted, ("broken", name, series)))
        return found

    def test_example_of_the_text(self):
        found = self.hold(TOTAL, ALL, [("hold",), ("guard", 0), ("fill",), ("drop",)])
        self.assertEqual(found.sets, ((("guard", 0),), (("fill",),), (("drop",),)))
        self.assertEqual([(chosen, name, len(series)) for chosen, name, series in found.broken],
                         [((), "all", 1), ((("hold",),), "all", 1)])

    def test_an_empty_pool(self):
        self.assertEqual(self.hold(TOTAL, ALL, []).sets, ())
        self.assertEqual(len(least_mends(TOTAL, ALL, []).broken), 1)
        self.assertEqual((self.hold(TOTAL, {}, []).sets, least_mends(TOTAL, {}, []).broken), (((),), ()))

    def test_as_wished_already(self):
        one = low("low = x if x == x and low is nothing", "low = min(low, x)")
        for pool in ([], [("exchange", 1)], [("drop",), ("exchange", 1), ("guard", 0), ("fill",)]):
            found = self.hold(one, LEAST, pool)
            self.assertEqual((found.sets, found.broken), (((),), ()))

    def test_no_set_mends(self):
        found = self.hold(TOTAL, {"all": "tell"}, [("drop",), ("fill",)])
        self.assertEqual(found.sets, ())
        self.assertEqual([chosen for chosen, _, _ in found.broken],
                         [(), (("drop",),), (("fill",),), (("drop",), ("fill",))])

    def test_two_are_needed(self):
        one = low("low = x if low is nothing", "low = min(x, low)")
        pool = [("exchange", 1), ("guard", 1), ("guard", 0)]
        found = self.hold(one, LEAST, pool)
        self.assertEqual(found.sets, ((("exchange", 1), ("guard", 0)), (("guard", 1), ("guard", 0))))
        self.assertEqual([chosen for chosen, _, _ in found.broken],
                         [(), (("exchange", 1),), (("guard", 1),), (("guard", 0),), (("exchange", 1), ("guard", 1))])

    def test_larger_sets_need_not_mend(self):
        one = low("low = x if x == x and low is nothing", "low = min(x, low)", "low = min(low, x)")
        pool = [("exchange", 1), ("exchange", 2)]
        self.assertTrue(judge(mended(one, pool[:1]), LEAST))
        self.assertFalse(judge(mended(one, pool), LEAST))
        self.assertEqual(self.hold(one, LEAST, pool).sets, ((("exchange", 1),),))

    def test_order_of_the_pool(self):
        one = low("low = x if low is nothing", "low = min(x, low)")
        pool = [("guard", 0), ("guard", 1), ("drop",), ("exchange", 1)]
        for order in itertools.permutations(pool):
            found = self.hold(one, LEAST, list(order))
            for chosen in [*found.sets, *[row[0] for row in found.broken]]:
                self.assertEqual([order.index(mend) for mend in chosen], sorted(order.index(mend) for mend in chosen))
            self.assertEqual({frozenset(chosen) for chosen in found.sets}, {
                frozenset([("drop",)]), frozenset([("guard", 0), ("guard", 1)]),
                frozenset([("guard", 0), ("exchange", 1)]),
            })

    def test_several_answers(self):
        one = Program.of("keep low", "sum total", "count many", "flag bad", "total += x", "many += 1",
                         "set bad if not x == x", "low = x if low is nothing or x < low", "answer least = low",
                         "answer all = total by many", "answer tells = told if bad else many")
        pool = [("guard", 0), ("guard", 1), ("guard", 3), ("drop",)]
        found = self.hold(one, {"least": "skip", "all": "skip", "tells": "tell"}, pool)
        self.assertEqual(found.sets, ((("guard", 0), ("guard", 1), ("guard", 3)),))
        found = self.hold(one, {"least": "skip", "tells": "tell"}, pool)
        self.assertEqual(found.sets, ((("guard", 3),),))

    def test_each_wish(self):
        one = Program.of("keep low", "flag bad", "place at", "sum total", "at = here if x == x", "set bad if not x == x",
                         "total += low", "low = min(x, low)", "answer all = total", "answer tells = told at if bad else low")
        for wanted in ({"all": "skip"}, {"all": "spoil"}, {"tells": "tell"}, {"tells": "first"}, {"tells": "last"},
                       {"tells": "tell", "all": "skip"}):
            for pool in ([("turn", 0), ("exchange", 3), ("drop",), ("hold",)], [("turn", 1), ("turn", 0), ("guard", 1)]):
                self.hold(one, wanted, pool)

    def test_broken_ones_against_short_series(self):
        one = low("low = x if low is nothing", "low = min(x, low) if not low is nothing")
        for chosen, name, series in self.hold(one, LEAST, [("guard", 0), ("hold",), ("exchange", 1)]).broken:
            check(self, AskedToJudge(mended(one, list(chosen)), LEAST), ("broken", name, series), [0, 1],
                  ("as wished", "broken"))

    def test_many_programs(self):
        lines = ("low = x if low is nothing", "low = min(low, x)", "low = max(x, low)", "low = x if x < low",
                 "low = x if not x >= low")
        many = 0
        for one, other in itertools.permutations(lines, 2):
            found = low(one, other)
            pool = [mend for mend in mends(found) if mend[0] != "fill"][:4]
            many += len(self.hold(found, LEAST, pool).sets) > 1
            pool = mends(found)[-4:]
            many += len(self.hold(found, LEAST, pool).sets) > 0
        self.assertGreater(many, 10)

    def test_arguments_stay(self):
        wanted, pool = {"all": "skip"}, [("guard", 0), ("drop",)]
        found = least_mends(TOTAL, wanted, pool)
        self.assertEqual((wanted, pool), ({"all": "skip"}, [("guard", 0), ("drop",)]))
        sets = found.sets
        pool.clear()
        wanted.clear()
        self.assertEqual((found.sets, sets), (((("guard", 0),), (("drop",),)), found.sets))


MANY = ("keep low", "keep high", "sum total", "low = before", "high = low", "low = max(low, x)", "total += x")


class WrongPools(unittest.TestCase):
    five = [("guard", 0), ("drop",), ("fill",), ("hold",), ("guard", 1)]
    two = Program.of("sum total", "total += x", "skip", "answer all = total")

    def raised(self, error, one, wanted, pool):
        with self.assertRaises(error) as caught:
            least_mends(one, wanted, pool)
        return list(vars(caught.exception).values())[0]

    def test_wrong_wishes(self):
        self.assertEqual(self.raised(BadWish, TOTAL, {"total": "skip"}, []), "total")
        self.assertEqual(self.raised(BadWish, TOTAL, {"all": "none", "zero": "skip"}, []), "all")

    def test_no_mend(self):
        for thing in (None, ["drop"], ("guard", 1), ("guard", False), ("turn", 0), ("drop", 0)):
            self.assertIs(self.raised(NoMend, TOTAL, ALL, [("drop",), thing]), thing)
        self.assertEqual(self.raised(NoMend, TOTAL, ALL, [("drop",), ("guard", 0), ("drop",)]), ("drop",))

    def test_too_many_steps_for_the_whole_pool(self):
        one = Program.of("sum total", "steps fill", "total += x", "answer all = total")
        self.assertEqual(self.raised(TooMany, one, ALL, STEPS), "steps")
        self.assertTrue(least_mends(one, ALL, STEPS[:2]).sets == ((),))

    def test_too_many_mends(self):
        self.assertEqual(self.raised(TooMany, self.two, ALL, self.five), "mends")
        self.assertEqual(len(least_mends(self.two, ALL, self.five[:4]).sets), 3)

    def test_their_order(self):
        three = Program.of("sum total", "steps drop", "total += x", "skip", "answer all = total")
        self.assertEqual(self.raised(BadWish, three, {"all": "none"}, [None]), "all")
        self.assertEqual(self.raised(BadWish, three, {"all": "none"}, self.five), "all")
        self.assertEqual(self.raised(NoMend, three, ALL, [*self.five, ("guard", 2)]), ("guard", 2))
        self.assertEqual(self.raised(NoMend, self.two, ALL, [*self.five, ("drop",)]), ("drop",))
        self.assertEqual(self.raised(TooMany, three, ALL, self.five), "steps")
        many = Program.of(*MANY[:3], "steps hold, shift, shift", *MANY[3:], "answer all = 0")
        self.assertEqual(self.raised(TooMany, many, {"all": "skip"}, [("guard", at) for at in range(4)] + [("exchange", 2)]),
                         "mends")

    def test_too_many_situations(self):
        many = Program.of(*MANY[:3], "steps hold, shift, shift", *MANY[3:], "answer all = 0")
        for pool in ([], [("guard", 0)]):
            self.assertEqual(self.raised(TooMany, many, {"all": "skip"}, pool), "situations")

    def test_too_many_situations_of_a_later_set(self):
        # The empty set and {hold} are broken by one entry; with a guard there is nothing wrong, but much to see.
        one = Program.of(*MANY[:3], "steps shift, shift", *MANY[3:], "answer all = total")
        self.assertEqual(len(least_mends(one, {"all": "skip"}, []).broken), 1)
        self.assertEqual(self.raised(TooMany, one, {"all": "skip"}, [("guard", 3), ("drop",)]), "situations")

    def test_sets_of_which_a_part_mends_are_not_judged(self):
        one = Program.of("keep low", "keep mid", "keep high", "sum total", "total += x", "low = before",
                         "mid = x if x < low", "high = x if x < mid", "answer all = total")
        pool = [("drop",), ("turn", 3)]
        self.assertRaises(TooMany, judge, mended(one, pool), ALL)
        found = least_mends(one, ALL, pool)
        self.assertEqual(found.sets, ((("drop",),),))
        self.assertEqual([chosen for chosen, _, _ in found.broken], [(), (("turn", 3),)])


class Harmless(unittest.TestCase):
    def by_itself(self, one, unnumbered):
        return [mend for mend in mends(one) if mend[0] in ("exchange", "turn")
                and compare(one, mended(one, [mend]), unnumbered=unnumbered)]

    def test_for_all_and_for_numbers(self):
        for lines, for_all, for_numbers in (
            (["low = min(low, x)"], [], []),
            (["low = x if low is nothing", "low = min(low, x)"], [], [("exchange", 1)]),
            (["low = x if low is nothing", "low = x if x < low"], [], [("turn", 1)]),
            (["low = x if low is nothing", "low = x if not x >= low"], [], [("turn", 1)]),
            (["steps drop", "low = x if low is nothing", "low = x if x < low"], [("turn", 1)], [("turn", 1)]),
            (["steps fill", "low = x if low is nothing", "low = max(x, low)"], [("exchange", 1)], [("exchange", 1)]),
            (["low = x if x == x"], [("turn", 0)], [("turn", 0)]),
            (["low = x if not x != low"], [("turn", 0)], [("turn", 0)]),
            (["low = max(x, x)"], [("exchange", 0)], [("exchange", 0)]),
            (["low = min(x, 0) if x < 0"], [("exchange", 0)], [("exchange", 0), ("turn", 0)]),
            (["low = min(x, 0) if not low == 0"], [("turn", 0)], [("exchange", 0), ("turn", 0)]),
            (["skip", "low = min(x, low) if x < 0"], [("exchange", 1), ("turn", 1)], [("exchange", 1), ("turn", 1)]),
        ):
            self.assertEqual(harmless(low(*lines)), for_all, lines)
            self.assertEqual(harmless(low(*lines), unnumbered=True), for_all, lines)
            self.assertEqual(harmless(low(*lines), unnumbered=False), for_numbers, lines)
            for unnumbered in (True, False):
                self.assertEqual(harmless(low(*lines), unnumbered=unnumbered), self.by_itself(low(*lines), unnumbered))

    def test_each_for_itself(self):
        # Either turn alone changes nothing, as the other statement does the same.
        one = low("low = x if x < 0", "low = x if x < 0")
        self.assertEqual(harmless(one), [])
        one = low("steps fill", "low = x if x < 0", "low = x if x < 0")
        self.assertEqual(harmless(one), [("turn", 0), ("turn", 1)])

    def test_guards_and_steps_are_none(self):
        self.assertEqual(harmless(low("steps drop", "low = x")), [])
        self.assertEqual(harmless(low()), [])

    def test_a_new_list_each_time(self):
        one = low("low = x if x == x")
        harmless(one).clear()
        self.assertEqual(harmless(one), [("turn", 0)])

    def test_unnumbered_is_a_name_alone(self):
        with self.assertRaises(TypeError):
            harmless(low("skip"), False)
        self.assertEqual(str(inspect.signature(harmless)), "(program, *, unnumbered=True)")

    def test_too_many(self):
        many = Program.of(*MANY[:3], "steps hold, shift, shift", *MANY[3:], "answer all = 0")
        for unnumbered in (True, False):
            with self.assertRaises(TooMany) as caught:
                harmless(many, unnumbered=unnumbered)
            self.assertEqual(caught.exception.what, "situations")
        without = Program.of(*MANY[:3], "steps hold, shift, shift", "low = before", "answer all = 0")
        self.assertEqual(harmless(without), [])


if __name__ == "__main__":
    unittest.main()
