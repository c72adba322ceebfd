"""What is promised over the whole program: the examples of the document, and point 2."""

import doctest
import importlib
import inspect
import unittest

from unnumbered.comparing import compare, is_comparison
from unnumbered.judging import is_judgement, is_wished, judge, same_situation, wishes
from unnumbered.keyed import Keyed, grouped, joined, run_grouped
from unnumbered.mends import harmless, least_mends, mended, mends
from unnumbered.pieces import Merge, is_cutting, merged, pieces
from unnumbered.programs import Program
from unnumbered.rules import Rule, book, is_safe, matches, parting, rewritten
from unnumbered.running import Machine, run, walk
from unnumbered.series import Series
from unnumbered.sheets import group_sheet, series_sheet, sheet, shown
from unnumbered.values import Told, Unnumbered

EXAMPLES = """
>>> from unnumbered.programs import Program
>>> from unnumbered.running import run
>>> from unnumbered.series import Series
>>> program = Program.of('keep last', 'keep late', 'steps drop, shift', 'late = before', 'last = x', 'answer one = last', 'answer two = late')
>>> run(program, Series.read('7 ?a 8 9')).answers
{'one': 8, 'two': 7}

>>> from unnumbered.programs import Program
>>> from unnumbered.judging import judge
>>> program = Program.of('flag bad', 'place at', 'count many', 'at = here if x != x and not bad', 'set bad if x != x', 'many += 1', 'answer size = told at if bad else many')
>>> verdict = judge(program, {'size': 'first'})
>>> [bool(verdict), len(verdict.certificate[1]), len(judge(program, {'size': 'last'}))]
[True, 3, 2]

>>> from unnumbered.programs import Program
>>> from unnumbered.rules import Rule, matches, rewritten
>>> program = Program.of('keep low', 'low = min(low, x) if (x < low) or low is nothing', 'answer least = low')
>>> rule = Rule('a < b -> not b <= a')
>>> [matches(program, rule), rewritten(program, rule, 0).statements]
[1, ('low = min(low, x) if (not low <= x) or low is nothing',)]

>>> from unnumbered.mends import least_mends
>>> from unnumbered.programs import Program
>>> program = Program.of('sum total', 'total += x', 'answer all = total')
>>> least_mends(program, {'all': 'skip'}, [('hold',), ('guard', 0), ('fill',), ('drop',)]).sets
((('guard', 0),), (('fill',),), (('drop',),))

>>> from unnumbered.keyed import joined
>>> from unnumbered.series import Series
>>> one, other = Series.read('1 ?a'), Series.read('?a 1 ?b')
>>> [joined(one, other, 'object'), joined(one, other, 'equal'), joined(one, other, 'one')]
[[(0, 1), (1, 0)], [(0, 1)], [(0, 1), (1, 0), (1, 2)]]
"""

# Each with the parameters that callers pass.
SIGNATURES = {
    "errors": "BadSeries(at) BadProgram(line) BadMerge(line) BadRule(side) BadWish(name) BadEntry(entry) BadWay(way) "
              "Unlike(name) NoMend(mend) NoMatch(number) TooMany(what) NoKey(key) NoAnswer(name)",
    "values": "is_number(thing) is_entry(thing) same(one,other) least(one,other) greatest(one,other) holds(sign,one,other) "
              "agree(one,other) Unnumbered(name) Told(place)",
    "series": "Series(entries) Series.of(*entries) Series.read(text) Series.numbers(self) Series.marks(self)",
    "programs": "Program(text) Program.of(*lines) Program.kind_of(self,name)",
    "running": "run(program,series,*,plain=False) walk(program,series) Machine(program) Machine.__call__(self,entry) "
               "Machine.miss(self) Machine.outcome(self) Machine.probe(self,*entries)",
    "judging": "wishes(**named) is_wished(program,wanted,series) same_situation(program,wanted,one,other) "
               "judge(program,wanted) is_judgement(program,wanted,thing)",
    "comparing": "compare(one,other,*,unnumbered=True) is_comparison(one,other,thing,*,unnumbered=True)",
    "pieces": "merged(program,merge,one,other) pieces(program,merge) is_cutting(program,merge,thing) Merge(program,text)",
    "mends": "mends(program) mended(program,chosen) least_mends(program,wanted,pool) harmless(program,*,unnumbered=True)",
    "rules": "is_safe(rule,*,unnumbered=True) parting(rule,*,unnumbered=True) book(rules,*,unnumbered=True) "
             "matches(program,rule) rewritten(program,rule,number) Rule(text)",
    "keyed": "grouped(keys,way) joined(left,right,way) run_grouped(program,keys,series,way) Keyed() Keyed.worths(self) "
             "Keyed.total(self)",
    "sheets": "shown(result) sheet(outcome) series_sheet(series) group_sheet(rows)",
}

LOW = ("keep low", "sum total", "low = min(x, low) if x < low or low is nothing", "total += x")
ENDS = ("answer least = low", "answer all = total")


def low():
    return Program.of(*LOW, *ENDS)


def series():
    return Series.read("5 ?a -3 ?a 0 ?b")


def calls():
    """Calls of all the functions that return something, with fresh arguments."""
    program, other, entries, wanted = low(), low(), series(), {"least": "skip", "all": "spoil"}
    keys = Series.read("1 ?a 1 ?b ?a 1")
    merge = Merge(program, "low = min(low, LOW)")
    pool, rule = [("guard", 0), ("drop",)], Rule("min(a, b) -> min(b, a)")
    chosen, rules = [("exchange", 0), ("fill",)], [rule, Rule("a -> a")]
    table = Keyed()
    table[5] = 1
    machine = Machine(program)
    machine(5)
    outcome = run(program, entries)
    rows = run_grouped(program, keys, entries, "object")
    arguments = (program, other, entries, wanted, keys, merge, pool, rule, chosen, rules, table, outcome, rows)
    return arguments, {
        "numbers": entries.numbers, "marks": entries.marks, "run": lambda: run(program, entries),
        "plain run": lambda: run(program, entries, plain=True), "walk": lambda: list(walk(program, entries)),
        "outcome": machine.outcome, "probe": lambda: machine.probe(7, 8), "wishes": lambda: wishes(one="skip"),
        "is_wished": lambda: is_wished(program, wanted, entries),
        "same_situation": lambda: same_situation(program, wanted, entries, keys), "judge": lambda: judge(program, wanted),
        "is_judgement": lambda: is_judgement(program, wanted, ("broken", "least", entries)),
        "compare": lambda: compare(program, other), "is_comparison": lambda: is_comparison(program, other, ("alike", ())),
        "merged": lambda: merged(program, merge, entries, keys), "pieces": lambda: pieces(program, merge),
        "is_cutting": lambda: is_cutting(program, merge, ("parted", "least", entries, 1)), "mends": lambda: mends(program),
        "mended": lambda: mended(program, chosen), "least_mends": lambda: least_mends(program, wanted, pool),
        "harmless": lambda: harmless(program), "is_safe": lambda: is_safe(rule), "parting": lambda: parting(rule),
        "book": lambda: book(rules), "matches": lambda: matches(program, rule),
        "rewritten": lambda: rewritten(program, rule, 0), "grouped": lambda: grouped(keys, "object"),
        "joined": lambda: joined(keys, entries, "one"), "run_grouped": lambda: run_grouped(program, keys, entries, "each"),
        "worths": table.worths, "total": table.total, "shown": lambda: shown((5, 2)), "sheet": lambda: sheet(outcome),
        "series_sheet": lambda: series_sheet(entries), "group_sheet": lambda: group_sheet(rows),
    }


def told(thing):
    """A text that tells all of a result or an argument."""
    if isinstance(thing, (list, tuple)):
        return f"{type(thing).__name__}({', '.join(told(item) for item in thing)})"
    if isinstance(thing, dict):
        return f"dict({', '.join(f'{told(name)}: {told(item)}' for name, item in thing.items())})"
    if thing is None or isinstance(thing, (int, str, Unnumbered, Told, Series)):
        return repr(thing)
    return f"{type(thing).__name__}({told(vars(thing))})"


def empty(thing):
    """Empties all lists and dicts that a result leads to by itself."""
    if isinstance(thing, (list, tuple)):
        for item in list(thing):
            empty(item)
    for name in ("answers", "keeps", "flags", "sums", "counts", "places", "parts"):
        held = getattr(thing, name, None)
        if isinstance(held, dict):
            empty(held)
    if isinstance(thing, dict):
        for item in thing.values():
            empty(item)
    if isinstance(thing, (list, dict)):
        thing.clear()


class Examples(unittest.TestCase):
    def test_of_the_document(self):
        test = doctest.DocTestParser().get_doctest(EXAMPLES, {}, "examples", None, None)
        results = doctest.DocTestRunner().run(test)
        self.assertEqual((results.failed, results.attempted), (0, 23))


class Parameters(unittest.TestCase):
    def test_names_and_kinds(self):
        for module_name, listed in SIGNATURES.items():
            module = importlib.import_module(f"unnumbered.{module_name}")
            for item in listed.split(" "):
                name, _, parameters = item.rstrip(")").partition("(")
                thing = module
                for part in name.split("."):
                    thing = getattr(thing, part)
                self.assertEqual(str(inspect.signature(thing)).replace(" ", ""), f"({parameters})", name)


class ArgumentsAndResults(unittest.TestCase):
    def test_arguments_stay_as_they_are(self):
        arguments, functions = calls()
        before = [told(argument) for argument in arguments]
        for name, function in functions.items():
            function()
            self.assertEqual([told(argument) for argument in arguments], before, name)

    def test_results_do_not_depend_on_earlier_ones(self):
        _, functions = calls()
        for name, function in functions.items():
            found = function()
            text = told(found)
            self.assertEqual(told(function()), text, name)
            empty(found)
            self.assertEqual(told(function()), text, name)

    def test_the_order_of_a_dict_means_nothing(self):
        program, entries = low(), series()
        one, other = {"least": "skip", "all": "spoil"}, {"all": "spoil", "least": "skip"}
        self.assertEqual(told(judge(program, one)), told(judge(program, other)))
        self.assertEqual(list(is_wished(program, one, entries)), list(is_wished(program, other, entries)))
        self.assertEqual(told(least_mends(program, one, [("drop",)])), told(least_mends(program, other, [("drop",)])))

    def test_later_changes_of_arguments(self):
        entries = [5, Unnumbered("a")]
        kept = Series(entries)
        entries.append(7)
        self.assertEqual(len(kept), 2)
        pool, chosen = [("drop",)], [("guard", 0)]
        mending, program = least_mends(low(), {"all": "skip"}, pool), mended(low(), chosen)
        text = told(mending), str(program)
        pool.clear()
        chosen.clear()
        self.assertEqual((told(mending), str(program)), text)

    def test_equal_to_nothing_of_another_class(self):
        program = low()
        things = [
            Unnumbered("a"), Told(None), Told(0), Series(()), program, Machine(program), run(program, series()),
            judge(program, {}), Merge(program, ""), least_mends(program, {}, []), Rule("a -> a"), Keyed(), None, 0, 1, True,
            False, "", "a -> a", str(program), (), [], {}, (None,),
        ]
        for one in things:
            for other in things:
                if type(one) is not type(other) and not (isinstance(one, int) and isinstance(other, int)):
                    self.assertFalse(one == other, (one, other))
                    self.assertTrue(one != other)


if __name__ == "__main__":
    unittest.main()
