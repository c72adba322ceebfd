"""Programs that are written again from what was read of them, and the parts of trees."""

import unittest

from unnumbered.programs import Program
from unnumbered.rewriting import program_with, statement_line
from unnumbered.trees import is_term, parts_of, tree_tokens, with_parts, without_brackets

REGISTERS = (
    "keep low", "flag bad", "keep high = 0", "sum total", "count many", "place at", "place to",
)
ACTIONS = (
    "low = x", "high = min(max(low, 0), before)", "at = here", "at = to", "set bad", "total += nothing", "total -= min(x, low)",
    "many += 1", "skip", "leave",
)
TESTS = (
    "bad", "not not bad", "x < low", "not (x >= low)", "((x == low))", "x != 0 and low <= x and bad",
    "x > 0 or bad or (bad or bad)", "bad and (bad or x is nothing) or not (bad and bad)", "min(x, low) is nothing",
    "x in (low)", "max(x, 0) in (low, 0, min(high, nothing))", "total == total", "total != total and not total == total",
)


def program(*statements, steps=()):
    return Program.of(*REGISTERS, *steps, *statements, "answer one = told at if bad else min(low, high)", "answer two = total by many")


class Lines(unittest.TestCase):
    def test_statements_are_written_as_they_were(self):
        for action in ACTIONS:
            for line in (action, *[f"{action} if {test}" for test in TESTS]):
                read = program(line).read_statements[0]
                self.assertEqual(statement_line(read), line)

    def test_programs(self):
        for steps in ((), ("steps drop",), ("steps hold, shift, fill",)):
            for statements in ((), ACTIONS):
                one = program(*statements, steps=steps)
                self.assertEqual(str(program_with(one, one.steps, one.read_statements)), str(one))
        one, other = program(*ACTIONS, steps=("steps drop",)), program("skip if bad")
        self.assertEqual(program_with(one, ["fill", "hold"], other.read_statements),
                         program("skip if bad", steps=("steps fill, hold",)))
        self.assertEqual(program_with(one, [], []), program())


class Trees(unittest.TestCase):
    trees = [program(f"skip if {test}").read_statements[0].test for test in TESTS]

    def test_parts(self):
        for tree in self.trees:
            self.assertEqual(with_parts(tree, parts_of(tree)), tree)
            self.assertFalse(is_term(tree))
        parts = parts_of(self.trees[TESTS.index("max(x, 0) in (low, 0, min(high, nothing))")])
        self.assertEqual([" ".join(tree_tokens(part)) for part in parts], ["max ( x , 0 )", "low", "0", "min ( high , nothing )"])
        self.assertTrue(all(is_term(part) for part in parts))

    def test_brackets(self):
        self.assertEqual(without_brackets(self.trees[TESTS.index("((x == low))")]), ("compare", "==", ("x",), ("keep", "low")))
        self.assertEqual(without_brackets(("not", ("brackets", ("flag", "bad")))), ("not", ("brackets", ("flag", "bad"))))


if __name__ == "__main__":
    unittest.main()
