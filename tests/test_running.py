"""Runs: steps, statements, answers, machines and outcomes (points 2, 12 to 17)."""

import inspect
import itertools
import unittest

from unnumbered.errors import BadEntry
from unnumbered.programs import Program
from unnumbered.running import Machine, Outcome, run, walk
from unnumbered.series import Series
from unnumbered.values import Told, Unnumbered, same

A = Unnumbered("a")
B = Unnumbered("b")


def shown(result):
    """A result in which unnumbered values are their texts, so that == compares it."""
    if isinstance(result, tuple):
        return tuple(shown(item) for item in result)
    return str(result) if isinstance(result, Unnumbered) else result


def shown_all(results):
    return {name: shown(result) for name, result in results.items()}


def answers(program, text, **more):
    return shown_all(run(program, Series.read(text), **more).answers)


def seen(steps, text, word="x"):
    """What x, or before, is each time when the statements are executed."""
    program = Program.of("keep kept", *([f"steps {steps}"] if steps else []), f"kept = {word}", "answer one = kept")
    machine = Machine(program)
    out = []
    for entry in Series.read(text):
        if machine(entry):
            out.append(shown(machine.outcome().keeps["kept"]))
    return out


def holds_for(test, x, *lines):
    """Whether a test holds when x is the one entry, behind these statements."""
    program = Program.of("keep low", "keep zero = 0", "flag bad", "flag yes", "sum total", *lines,
                         f"set yes if {test}", "answer one = yes")
    return run(program, Series.of(x)).answers["one"]


class Steps(unittest.TestCase):
    def test_none(self):
        self.assertEqual(seen("", "7 ?a 8"), [7, "?a", 8])

    def test_drop(self):
        self.assertEqual(seen("drop", "7 ?a 8 ?b"), [7, 8])
        self.assertEqual(seen("drop", "?a ?b"), [])

    def test_fill(self):
        self.assertEqual(seen("fill", "7 ?a -8 ?b"), [7, 0, -8, 0])

    def test_hold(self):
        self.assertEqual(seen("hold", "?a ?b 7 ?a ?a 8 ?b"), ["?a", "?b", 7, 7, 7, 8, 8])
        self.assertEqual(seen("hold", "0 ?a"), [0, 0])

    def test_shift(self):
        self.assertEqual(seen("shift", "7 ?a 8 9"), [None, 7, "?a", 8])

    def test_hold_leaves_nothing_as_it_is(self):
        self.assertEqual(seen("shift, hold", "7 ?a 8"), [None, 7, 7])
        self.assertEqual(seen("shift, hold", "?a ?b 8 1"), [None, "?a", "?b", 8])

    def test_nothing_is_dropped_and_filled(self):
        self.assertEqual(seen("shift, drop", "7 ?a 8 9"), [7, 8])
        self.assertEqual(seen("shift, fill", "7 ?a 8 9"), [0, 7, 0, 8])

    def test_drop_hides_entries_from_later_steps(self):
        self.assertEqual(seen("drop, shift", "7 ?a 8 9"), [None, 7, 8])
        self.assertEqual(seen("drop, fill", "7 ?a"), [7])
        self.assertEqual(seen("drop, hold", "7 ?a 8"), [7, 8])

    def test_order(self):
        self.assertEqual(seen("hold, shift", "7 ?a 8"), [None, 7, 7])
        self.assertEqual(seen("hold, drop", "?a 7 ?a"), [7, 7])
        self.assertEqual(seen("fill, hold", "7 ?a"), [7, 0])
        self.assertEqual(seen("hold, fill", "?b 7 ?a"), [0, 7, 7])

    def test_twice(self):
        self.assertEqual(seen("shift, shift", "7 ?a 8 9"), [None, None, 7, "?a"])
        self.assertEqual(seen("shift, hold, shift", "7 ?a 8 9"), [None, None, 7, 7])
        self.assertEqual(seen("hold, shift, hold", "?a 7 ?a 8"), [None, "?a", 7, 7])
        self.assertEqual(seen("shift, drop, shift", "7 ?a 8 9"), [None, 7])
        self.assertEqual(seen("drop, drop, drop", "7 ?a 8"), [7, 8])
        self.assertEqual(seen("hold, hold", "?a 7 ?a"), ["?a", 7, 7])

    def test_every_order_against_rules(self):
        entries = [5, A, -6, 0, B]
        for many in (1, 2, 3):
            for steps in itertools.product(("drop", "fill", "hold", "shift"), repeat=many):
                stream = [shown(entry) for entry in entries]
                for step in steps:
                    stream = by_rule(step, stream)
                self.assertEqual(seen(", ".join(steps), "5 ?a -6 0 ?b"), stream, steps)


def by_rule(step, stream):
    """What a step makes of all that it receives, after the words of point 12."""
    if step == "drop":
        return [thing for thing in stream if isinstance(thing, int)]
    if step == "fill":
        return [thing if isinstance(thing, int) else 0 for thing in stream]
    if step == "shift":
        return [None, *stream][:len(stream)]
    out = []
    for at, thing in enumerate(stream):
        numbers = [number for number in stream[:at] if isinstance(number, int)]
        out.append(numbers[-1] if not isinstance(thing, int) and numbers else thing)
    return out


class Words(unittest.TestCase):
    def test_before(self):
        self.assertEqual(seen("", "7 ?a 8", "before"), [None, 7, "?a"])
        self.assertEqual(seen("drop", "7 ?a 8 9", "before"), [None, 7, 8])
        self.assertEqual(seen("shift", "7 ?a 8", "before"), [None, None, 7])
        self.assertEqual(seen("hold", "7 ?a 8", "before"), [None, 7, 7])

    def test_before_behind_skip(self):
        program = Program.of("keep kept", "skip if x == 0", "kept = before", "answer one = kept")
        self.assertEqual(answers(program, "7 0 8"), {"one": 0})
        self.assertEqual(answers(program, "7 0"), {"one": None})

    def test_before_is_the_same_in_all_statements_of_an_entry(self):
        program = Program.of("keep low", "keep high", "low = before", "high = before", "answer one = low",
                             "answer two = high")
        self.assertEqual(answers(program, "7 8 9"), {"one": 8, "two": 8})

    def test_here(self):
        for steps in ("drop", "fill", "hold", "shift", "shift, drop", "hold, shift"):
            program = Program.of("place at", f"steps {steps}", "at = here", "answer one = at")
            self.assertEqual(answers(program, "?a 4 5"), {"one": 2}, steps)
            self.assertEqual(answers(program, ""), {"one": None}, steps)
        program = Program.of("place at", "steps drop", "at = here", "answer one = at")
        self.assertEqual(answers(program, "4 5 ?a"), {"one": 1})


class Tests(unittest.TestCase):
    def test_registers_at_first(self):
        outcome = run(Program.of("keep low", "keep high = 0", "flag bad", "sum total", "count many", "place at",
                                 "answer one = low"), Series(()))
        self.assertEqual((outcome.keeps, outcome.flags, outcome.sums, outcome.counts, outcome.places, outcome.parts),
                         ({"low": None, "high": 0}, {"bad": False}, {"total": 0}, {"many": 0}, {"at": None},
                          {"total": {}}))
        self.assertEqual((outcome.answers, outcome.held, outcome.is_left), ({"one": None}, (None, 0), False))

    def test_comparisons(self):
        signs = {"<": lambda a, b: a < b, "<=": lambda a, b: a <= b, ">": lambda a, b: a > b,
                 ">=": lambda a, b: a >= b, "==": lambda a, b: a == b, "!=": lambda a, b: a != b}
        for sign, function in signs.items():
            for number in (-1, 0, 1):
                self.assertEqual(holds_for(f"x {sign} 0", number), function(number, 0), (number, sign))
                self.assertEqual(holds_for(f"0 {sign} x", number), function(0, number), (number, sign))
            for test in (f"x {sign} x", f"x {sign} 0", f"0 {sign} x", f"x {sign} nothing", f"nothing {sign} x"):
                self.assertEqual(holds_for(test, A), sign == "!=", test)
            for test in (f"x {sign} nothing", f"nothing {sign} x", f"nothing {sign} nothing", f"low {sign} before"):
                self.assertEqual(holds_for(test, 5), sign == "!=", test)

    def test_is_nothing(self):
        self.assertTrue(holds_for("nothing is nothing", 5))
        self.assertTrue(holds_for("low is nothing", 5))
        self.assertTrue(holds_for("before is nothing", 5))
        for test in ("x is nothing", "0 is nothing", "zero is nothing"):
            self.assertFalse(holds_for(test, A), test)
            self.assertFalse(holds_for(test, 0), test)

    def test_in(self):
        self.assertTrue(holds_for("x in (x)", A))
        self.assertTrue(holds_for("x in (0, nothing, low)", A, "low = x"))
        self.assertTrue(holds_for("nothing in (0, nothing)", 5))
        self.assertTrue(holds_for("low in (before)", 5))
        self.assertTrue(holds_for("x in (zero)", 0))
        self.assertFalse(holds_for("x in (0, nothing)", A))
        self.assertFalse(holds_for("nothing in (0, x)", A))
        self.assertFalse(holds_for("x in (0, nothing, low)", 5))

    def test_in_takes_values_with_one_name_as_the_same(self):
        program = Program.of("flag yes", "set yes if x in (before)", "answer one = yes")
        machine = Machine(program)
        machine(Unnumbered("a"))
        self.assertFalse(machine.probe(Unnumbered("b")).answers["one"])
        self.assertTrue(machine.probe(Unnumbered("a")).answers["one"])

    def test_and_or_not(self):
        yes, no = "0 == 0", "0 != 0"
        for test, expected in (
            (f"{yes} or {no} and {no}", True), (f"({yes} or {no}) and {no}", False), (f"{no} or {no} or {yes}", True),
            (f"{yes} and {yes} and {no}", False), (f"not {yes} or {yes}", True), (f"not ({yes} or {yes})", False),
            (f"not not {yes}", True), (f"{no} and {no} or {yes}", True), (f"not {no} and {yes}", True),
            (f"not {no} and {no}", False), (f"(({yes}))", True), (f"{no} or {no}", False),
        ):
            self.assertEqual(holds_for(test, 1), expected, test)

    def test_flags_and_sums(self):
        self.assertFalse(holds_for("bad", 1))
        self.assertTrue(holds_for("not bad", 1))
        self.assertTrue(holds_for("bad", 1, "set bad"))
        for line, is_number in (("total += x", False), ("total -= nothing", False), ("total += 0", True)):
            self.assertEqual(holds_for("total == total", A, line), is_number, line)
            self.assertEqual(holds_for("total != total", A, line), not is_number, line)

    def test_min_and_max(self):
        program = Program.of("keep low", "keep high", "low = min(x, before)", "high = max(x, before)",
                             "answer one = low", "answer two = high")
        # The first argument stays unless the second one is less, or greater.
        for text, low, high in (("3 5", 3, 5), ("5 3", 3, 5), ("3 3", 3, 3), ("?a 5", 5, 5), ("5 ?a", "?a", "?a"),
                                ("?b ?a", "?a", "?a"), ("?a", "?a", "?a"), ("5", 5, 5)):
            self.assertEqual(answers(program, text), {"one": low, "two": high}, text)
        program = Program.of("keep low", "low = min(before, x)", "answer one = low", "answer two = max(nothing, low)",
                             "answer three = max(0, min(low, 0))")
        self.assertEqual(answers(program, "5"), {"one": None, "two": None, "three": 0})
        self.assertEqual(answers(program, "5 -3"), {"one": -3, "two": None, "three": 0})


class Statements(unittest.TestCase):
    def test_keeps_and_places_store(self):
        program = Program.of("keep low", "keep high", "place at", "place to", "low = x", "high = low", "low = 0",
                             "to = at", "at = here", "answer one = low", "answer two = high", "answer three = at",
                             "answer four = to")
        self.assertEqual(answers(program, "7 8 9"), {"one": 0, "two": 9, "three": 2, "four": 1})
        self.assertEqual(answers(program, "7"), {"one": 0, "two": 7, "three": 0, "four": None})

    def test_keeps_can_become_nothing(self):
        program = Program.of("keep low", "low = x", "low = nothing if x == 0", "answer one = low")
        self.assertEqual(answers(program, "7 0"), {"one": None})

    def test_flags_stay_set(self):
        program = Program.of("flag bad", "set bad if x != x", "answer one = bad")
        self.assertEqual(answers(program, "7"), {"one": False})
        self.assertEqual(answers(program, "7 ?a 8"), {"one": True})

    def test_counts(self):
        program = Program.of("count many", "count few", "many += 1", "few += 1 if x < 0", "few += 1 if x < 0",
                             "answer one = many", "answer two = few")
        self.assertEqual(answers(program, "7 -1 ?a -2"), {"one": 4, "two": 4})

    def test_sums(self):
        program = Program.of("sum total", "total += x", "total -= before", "answer one = total")
        self.assertEqual(answers(program, "7"), {"one": None})
        program = Program.of("sum total", "total += x", "total -= before if not before is nothing",
                             "answer one = total")
        self.assertEqual(answers(program, "7 3 -4"), {"one": -4})
        program = Program.of("sum total", "total -= x", "answer one = total")
        self.assertEqual(answers(program, "7 3 -4"), {"one": -6})

    def test_sums_that_become_no_number_stay(self):
        program = Program.of("sum total", "total -= x", "answer one = total")
        self.assertEqual(answers(program, "7 ?a 3 ?b"), {"one": "?a"})
        program = Program.of("sum total", "steps shift", "total += x if not x == x", "total += x",
                             "answer one = total")
        self.assertEqual(answers(program, "7 ?a 3"), {"one": None})

    def test_sums_of_400_digits(self):
        program = Program.of("sum total", "keep low", "total += x", "low = min(x, low)", "total -= low if x < 0",
                             "answer one = total")
        many = 10 ** 399
        self.assertEqual(run(program, Series.of(many, many, -many)).answers["one"], 2 * many)
        self.assertEqual(run(program, Series.of(many, many, -many)).parts["total"], {many: 2})

    def test_skip(self):
        program = Program.of("count many", "count few", "few += 1", "skip if x != x", "many += 1", "answer one = many",
                             "answer two = few")
        self.assertEqual(answers(program, "7 ?a 8"), {"one": 2, "two": 3})
        program = Program.of("count many", "skip", "many += 1", "answer one = many")
        self.assertEqual(answers(program, "7 ?a 8"), {"one": 0})

    def test_leave(self):
        program = Program.of("count many", "count few", "keep low", "steps shift", "few += 1", "leave if x != x",
                             "many += 1", "low = before", "answer one = many", "answer two = few", "answer three = low")
        outcome = run(program, Series.read("7 8"))
        self.assertTrue(outcome.is_left)
        self.assertEqual(outcome.answers, {"one": 0, "two": 1, "three": None})
        self.assertEqual(outcome.held, (None, 7, None))
        program = Program.of("count many", "keep low", "steps hold", "many += 1", "leave if x < 0", "low = before",
                             "answer one = many")
        outcome = run(program, Series.read("7 8 -1 9 ?a"))
        self.assertEqual((outcome.keeps, outcome.answers, outcome.held, outcome.is_left),
                         ({"low": 7}, {"one": 3}, (7, -1, -1), True))
        self.assertFalse(run(program, Series.read("7 8")).is_left)

    def test_order_of_statements(self):
        program = Program.of("keep low", "low = x if low is nothing", "low = 0 if low == x", "answer one = low")
        self.assertEqual(answers(program, "7"), {"one": 0})

    def test_no_statements(self):
        program = Program.of("keep low", "answer one = low")
        self.assertTrue(Machine(program)(5))
        self.assertEqual(answers(program, "7 ?a"), {"one": None})


class Answers(unittest.TestCase):
    def test_kinds(self):
        program = Program.of("keep low", "flag bad", "sum total", "count many", "place at", "low = x", "set bad",
                             "total += x", "many += 1", "at = here", "answer one = min(low, 0)", "answer two = bad",
                             "answer three = total", "answer four = many")
        self.assertEqual(answers(program, "5 -3"), {"one": -3, "two": True, "three": 2, "four": 2})
        self.assertEqual(list(run(program, Series.of(1)).answers), ["one", "two", "three", "four"])
        self.assertEqual(answers(program, ""), {"one": None, "two": False, "three": 0, "four": 0})
        program = Program.of("sum total", "count many", "place at", "total += x", "many += 1 if x == x", "at = here",
                             "answer total = total by many", "answer two = at", "answer three = nothing")
        self.assertEqual(answers(program, "5 -3"), {"total": (2, 2), "two": 1, "three": None})
        self.assertEqual(answers(program, "5 ?a 2"), {"total": ("?a", 2), "two": 2, "three": None})
        self.assertEqual(answers(program, ""), {"total": (0, 0), "two": None, "three": None})

    def test_told(self):
        program = Program.of("flag bad", "place at", "count many", "many += 1", "at = here if x == 0", "set bad if x != x",
                             "answer one = told if bad else many", "answer two = told at if bad else many",
                             "answer three = at")
        self.assertEqual(answers(program, "5 0"), {"one": 2, "two": 2, "three": 1})
        self.assertEqual(answers(program, "5 0 ?a"), {"one": Told(None), "two": Told(1), "three": 1})
        self.assertEqual(answers(program, "?a"), {"one": Told(None), "two": Told(None), "three": None})

    def test_one_entry_of_each_kind_alone(self):
        program = Program.of("keep low", "low = x", "answer one = low")
        self.assertEqual(answers(program, "?a ?b"), {"one": "?b"})
        self.assertEqual(answers(program, "?a ?b", plain=True), {"one": None})


class Parts(unittest.TestCase):
    program = Program.of("sum total", "sum rest", "total += x", "total -= before if not before is nothing", "rest += x",
                         "answer one = total")

    def parts(self, text):
        return run(self.program, Series.read(text)).parts

    def test_parts(self):
        self.assertEqual(self.parts(""), {"total": {}, "rest": {}})
        self.assertEqual(self.parts("7 7 0 -2"), {"total": {-2: 1}, "rest": {7: 2, -2: 1}})
        self.assertEqual(list(self.parts("7")), ["total", "rest"])

    def test_numbers_subtracted_more_often(self):
        program = Program.of("sum total", "total -= x", "total -= x", "answer one = total")
        self.assertEqual(run(program, Series.of(4, 0, 4, -1)).parts, {"total": {4: -4, -1: -2}})

    def test_while_the_sum_was_a_number(self):
        self.assertEqual(self.parts("7 ?a 7 8"), {"total": {7: 1}, "rest": {7: 1}})
        self.assertEqual(self.parts("7 8 ?a 9"), {"total": {8: 1}, "rest": {7: 1, 8: 1}})


class Plain(unittest.TestCase):
    def test_places_stay(self):
        program = Program.of("place at", "count many", "keep low", "at = here", "many += 1", "low = before",
                             "answer one = at", "answer two = many", "answer three = low")
        self.assertEqual(answers(program, "?a 7 ?b 8 ?a"), {"one": 4, "two": 5, "three": 8})
        self.assertEqual(answers(program, "?a 7 ?b 8 ?a", plain=True), {"one": 3, "two": 2, "three": 7})
        self.assertEqual(answers(program, "?a 7 ?b 8 ?a", plain=False), answers(program, "?a 7 ?b 8 ?a"))

    def test_unnumbered_alone(self):
        program = Program.of("sum total", "total += x", "answer one = total")
        self.assertEqual(answers(program, "?a ?b"), {"one": "?a"})
        self.assertEqual(answers(program, "?a ?b", plain=True), {"one": 0})

    def test_plain_is_a_name_alone(self):
        with self.assertRaises(TypeError):
            run(Program.of("answer one = 0"), Series(()), True)


class Held(unittest.TestCase):
    def held(self, text, *lines):
        return tuple(shown(value) for value in run(Program.of(*lines), Series.read(text)).held)

    def test_order(self):
        lines = ("keep low", "sum total", "keep high = 0", "steps hold, shift, hold", "low = before",
                 "answer one = high")
        self.assertEqual(self.held("", *lines), (None, 0, None, None, None, None))
        self.assertEqual(self.held("?a", *lines), (None, 0, None, "?a", None, None))
        self.assertEqual(self.held("5 ?a 6", *lines), (5, 0, 6, 6, 5, 5))

    def test_steps_that_hold_nothing(self):
        self.assertEqual(self.held("5 ?a", "steps drop, fill, drop", "answer one = 0"), ())

    def test_before_counts_where_the_word_stands(self):
        self.assertEqual(self.held("5 6", "keep low", "low = x", "answer one = 0"), (6,))
        self.assertEqual(self.held("5 6", "keep low", "low = x if x == 0 and min(0, before) == 0", "answer one = 0"), (None, 6))
        self.assertEqual(self.held("5 6", "keep low", "low = x", "low = before if 0 < 0", "answer one = 0"), (6, 6))

    def test_a_shift_that_received_nothing(self):
        self.assertEqual(self.held("5", "steps shift, shift", "answer one = 0"), (5, None))
        self.assertEqual(self.held("5 ?a", "steps shift, shift", "answer one = 0"), ("?a", 5))

    def test_a_dropped_entry_does_not_reach_later_steps(self):
        self.assertEqual(self.held("5 ?a", "steps shift, drop, shift", "answer one = 0"), ("?a", 5))


class Walking(unittest.TestCase):
    program = Program.of("keep low", "sum total", "low = x", "total += x", "leave if x == 0", "answer one = total")

    def test_outcomes(self):
        outcomes = walk(self.program, Series.of(1, 2, 0, 5))
        self.assertTrue(inspect.isgenerator(outcomes))
        outcomes = list(outcomes)
        self.assertEqual([outcome.answers["one"] for outcome in outcomes], [1, 3, 3, 3])
        self.assertEqual([outcome.is_left for outcome in outcomes], [False, False, True, True])
        self.assertEqual([outcome.parts for outcome in outcomes],
                         [{"total": {1: 1}}] + 3 * [{"total": {1: 1, 2: 1}}])
        self.assertEqual(list(walk(self.program, Series(()))), [])

    def test_places(self):
        program = Program.of("place at", "at = here", "answer one = at")
        self.assertEqual([outcome.places["at"] for outcome in walk(program, Series.of(5, A, 6))], [0, 1, 2])

    def test_the_last_is_that_of_the_run(self):
        outcome = list(walk(self.program, Series.of(1, 2, 3)))[-1]
        self.assertEqual(vars(outcome), vars(run(self.program, Series.of(1, 2, 3))))

    def test_changing_an_outcome_changes_nothing_else(self):
        for outcome in walk(self.program, Series.of(1, 2)):
            last = dict(outcome.sums), {name: dict(parts) for name, parts in outcome.parts.items()}
            outcome.sums["total"] = 100
            outcome.parts["total"].clear()
            outcome.keeps.clear()
        self.assertEqual(last, ({"total": 3}, {"total": {1: 1, 2: 1}}))


PROBED = Program.of("keep low", "sum total", "place at", "steps hold, shift", "low = before", "total += x if x == x",
                    "at = here", "leave if x == 0", "answer one = total", "answer two = at")


class Machines(unittest.TestCase):
    def test_call_says_whether_statements_are_reached(self):
        machine = Machine(Program.of("steps shift, drop", "skip if x == 0", "leave if x < 0", "answer one = 0"))
        self.assertEqual([machine(entry) for entry in (A, 0, A, 5, -1, 7, 8, A)],
                         [False, False, True, False, True, True, False, False])
        self.assertTrue(machine.outcome().is_left)
        self.assertEqual(machine.fed, 8)

    def test_wrong_entries(self):
        machine = Machine(Program.of("keep low", "low = x", "leave if x == 0", "answer one = low"))
        machine(5)
        for leave in (False, True):
            if leave:
                machine(0)
            for thing in (True, False, None, "5", [5], (5,), Told(1), Series.of(5)):
                before = vars(machine.outcome())
                with self.assertRaises(BadEntry) as caught:
                    machine(thing)
                self.assertIs(caught.exception.entry, thing)
                self.assertEqual(machine.fed, 2 if leave else 1)
                self.assertEqual(vars(machine.outcome()), before)

    def test_fed_and_miss(self):
        machine = Machine(Program.of("place at", "keep low", "steps hold", "at = here", "low = before",
                                     "answer one = at"))
        self.assertEqual(machine.fed, 0)
        self.assertIsNone(machine.miss())
        self.assertEqual(machine.fed, 1)
        self.assertIsNone(machine.outcome().answers["one"])
        machine(5)
        machine.miss()
        machine(6)
        self.assertEqual((machine.fed, machine.outcome().answers["one"], machine.outcome().held), (4, 3, (5, 6, 6)))

    def test_miss_behind_leave(self):
        machine = Machine(Program.of("leave", "answer one = 0"))
        machine(5)
        machine.miss()
        self.assertEqual(machine.fed, 2)

    def test_as_plain_run(self):
        program = Program.of("place at", "sum total", "keep low", "steps hold, shift", "at = here", "total += x if x == x",
                             "low = before", "answer one = at", "answer two = total")
        for text in ("", "?a", "5 ?a 6 ?b ?a 7", "?a ?a 3"):
            series = Series.read(text)
            machine = Machine(program)
            for entry in series:
                machine.miss() if isinstance(entry, Unnumbered) else machine(entry)
            self.assertEqual(vars(machine.outcome()), vars(run(program, series, plain=True)))

    def test_outcome_does_not_change_later(self):
        machine = Machine(Program.of("keep low", "flag bad", "sum total", "count many", "place at", "low = x", "set bad",
                                     "total += x", "many += 1", "at = here", "leave if x == 0", "answer one = total"))
        outcome = machine.outcome()
        machine(5)
        second = machine.outcome()
        machine(6)
        machine(0)
        self.assertEqual(vars(outcome), vars(Machine(Program.of(
            "keep low", "flag bad", "sum total", "count many", "place at", "answer one = total")).outcome()))
        self.assertEqual((second.answers, second.keeps, second.flags, second.sums, second.counts, second.places,
                          second.parts, second.held, second.is_left),
                         ({"one": 5}, {"low": 5}, {"bad": True}, {"total": 5}, {"many": 1}, {"at": 0},
                          {"total": {5: 1}}, (5,), False))

    def test_changing_an_outcome_changes_this_one_alone(self):
        machine = Machine(Program.of("keep low", "flag bad", "sum total", "count many", "place at", "low = x",
                                     "total += x", "answer one = total"))
        machine(5)
        outcome, other = machine.outcome(), machine.outcome()
        expected = {name: repr(part) for name, part in vars(other).items()}
        outcome.parts["total"][5] = 9
        for part in (outcome.answers, outcome.keeps, outcome.flags, outcome.sums, outcome.counts, outcome.places,
                     outcome.parts):
            part.clear()
        for one in (other, machine.outcome()):
            self.assertEqual({name: repr(part) for name, part in vars(one).items()}, expected)

    def test_probe(self):
        machine = Machine(PROBED)
        for entry in (5, 6):
            machine(entry)
        now = repr(vars(machine.outcome()))
        outcome = machine.probe(7, A, 8)
        self.assertEqual(vars(outcome), vars(run(PROBED, Series.of(5, 6, 7, A, 8))))
        self.assertEqual(outcome.answers, {"one": 25, "two": 4})
        for things, wrong in (((7, True), True), ((None, "a"), None), ((0, 1, 1, [3], "b"), [3])):
            with self.assertRaises(BadEntry) as caught:
                machine.probe(*things)
            self.assertEqual(caught.exception.entry, wrong)
        self.assertEqual(repr(vars(machine.outcome())), now)
        self.assertEqual(repr(vars(machine.probe())), now)
        self.assertEqual(machine.fed, 2)
        machine.probe(0, 0).parts["total"].clear()
        self.assertEqual(repr(vars(machine.outcome())), now)
        machine(7)
        self.assertEqual(vars(machine.outcome()), vars(run(PROBED, Series.of(5, 6, 7))))

    def test_two_machines_share_nothing(self):
        program = Program.of("sum total", "steps shift", "total += x if x == x", "answer one = total")
        one, other = Machine(program), Machine(program)
        one(5)
        one(6)
        self.assertEqual((one.fed, other.fed), (2, 0))
        self.assertEqual(other.outcome().parts, {"total": {}})
        other(1)
        self.assertEqual((one.outcome().held, other.outcome().held), ((6,), (1,)))

    def test_no_greatest_number_of_places(self):
        machine = Machine(Program.of("count many", "place at", "many += 1", "at = here", "answer one = many"))
        for _ in range(300):
            machine(A)
        self.assertEqual((machine.fed, machine.outcome().answers, machine.outcome().places),
                         (300, {"one": 300}, {"at": 299}))

    def test_fed_is_read_alone(self):
        with self.assertRaises(AttributeError):
            Machine(Program.of("answer one = 0")).fed = 3


class Examples(unittest.TestCase):
    def test_first_example(self):
        program = Program.of("keep last", "keep late", "steps drop, shift", "late = before", "last = x",
                             "answer one = last", "answer two = late")
        outcome = run(program, Series.read("7 ?a 8 9"))
        self.assertEqual(outcome.answers, {"one": 8, "two": 7})
        self.assertIsInstance(outcome, Outcome)

    def test_arguments_do_not_change(self):
        program = Program.of("keep low", "steps hold", "low = x", "answer one = low")
        series = Series.read("5 ?a")
        text, entries = str(program), series.entries
        run(program, series)
        list(walk(program, series))
        self.assertEqual((str(program), series.entries), (text, entries))
        self.assertTrue(same(run(program, Series.of(A)).answers["one"], A))


if __name__ == "__main__":
    unittest.main()
