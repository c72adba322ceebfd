"""The tokens of lines (9), and the read form of terms, tests, statements and answers (10, 11)."""

import unittest

from unnumbered.programs import Program
from unnumbered.tokens import WrongLine, tokens_of, written

REGISTERS = (
    "keep low", "keep high = 0", "flag bad", "sum total", "count many", "place at", "place to",
)
X = ("x",)
LOW = ("keep", "low")
BAD = ("flag", "bad")


def statement(line):
    return Program.of(*REGISTERS, line, "answer one = 0").read_statements[0]


def condition(text):
    return statement(f"skip if {text}").test


def answer(line):
    return Program.of(*REGISTERS, line).read_answers[0]


class Tokens(unittest.TestCase):
    def test_longest(self):
        self.assertEqual(tokens_of("a<=b<c==d=e!=f>=g>h+=i-=j"), [
            "a", "<=", "b", "<", "c", "==", "d", "=", "e", "!=", "f", ">=", "g", ">", "h", "+=", "i", "-=", "j",
        ])
        self.assertEqual(tokens_of("===<=="), ["==", "=", "<=", "="])

    def test_digits_are_single(self):
        self.assertEqual(tokens_of("0110a0b"), ["0", "1", "1", "0", "a", "0", "b"])

    def test_spaces(self):
        self.assertEqual(tokens_of("   "), [])
        self.assertEqual(tokens_of("  a   b(c)  "), ["a", "b", "(", "c", ")"])

    def test_wrong_characters(self):
        for text in ("a!", "a + b", "a-b", "2", "A", "aB", "a\tb", "a.b", "?a", "\u00e9"):
            with self.assertRaises(WrongLine):
                tokens_of(text)

    def test_written(self):
        self.assertEqual(written(tokens_of("a=min( b,max (c ,d) )if not ( x in( e,0 ) )")),
                         "a = min(b, max(c, d)) if not (x in (e, 0))")
        self.assertEqual(written([]), "")


class Terms(unittest.TestCase):
    def test_single(self):
        for text, tree in (("x", X), ("before", ("before",)), ("0", ("0",)), ("nothing", ("nothing",)), ("low", LOW)):
            self.assertEqual(statement(f"low = {text}").action, ("keep", "low", tree))

    def test_nested(self):
        self.assertEqual(statement("low = min(max(low, x), 0)").action[2], ("min", ("max", LOW, X), ("0",)))


class Conditions(unittest.TestCase):
    def test_none(self):
        self.assertIs(statement("skip").test, None)

    def test_atoms(self):
        for sign in ("<", "<=", ">", ">=", "==", "!="):
            self.assertEqual(condition(f"x {sign} low"), ("compare", sign, X, LOW))
        self.assertEqual(condition("x is nothing"), ("is nothing", X))
        self.assertEqual(condition("x in (low, 0)"), ("in", X, (LOW, ("0",))))
        self.assertEqual(condition("bad"), BAD)
        self.assertEqual(condition("total == total"), ("sum", "==", "total"))
        self.assertEqual(condition("total != total"), ("sum", "!=", "total"))

    def test_and_binds_more_than_or_and_not_most(self):
        self.assertEqual(
            condition("not bad and x < low or bad and bad or bad"),
            ("or", (("and", (("not", BAD), ("compare", "<", X, LOW))), ("and", (BAD, BAD)), BAD)),
        )
        self.assertEqual(condition("not x < low"), ("not", ("compare", "<", X, LOW)))
        self.assertEqual(condition("not not bad"), ("not", ("not", BAD)))

    def test_brackets_stay(self):
        self.assertEqual(
            condition("not (bad or (bad)) and (bad)"),
            ("and", (("not", ("brackets", ("or", (BAD, ("brackets", BAD))))), ("brackets", BAD))),
        )


class Actions(unittest.TestCase):
    def test_each(self):
        actions = {
            "low = x": ("keep", "low", X),
            "at = here": ("here", "at"),
            "at = to": ("place", "at", "to"),
            "set bad": ("set", "bad"),
            "total += x": ("add", "total", X),
            "total -= low": ("subtract", "total", LOW),
            "many += 1": ("count", "many"),
            "skip": ("skip",),
            "leave": ("leave",),
        }
        for line, action in actions.items():
            self.assertEqual(statement(line).action, action)
            read = statement(f"{line} if bad")
            self.assertEqual((read.action, read.test), (action, BAD))


class Answers(unittest.TestCase):
    def test_results(self):
        results = {
            "low": ("value", LOW),
            "nothing": ("value", ("nothing",)),
            "max(low, 0)": ("value", ("max", LOW, ("0",))),
            "bad": ("truth", "bad"),
            "total": ("sum", "total"),
            "many": ("count", "many"),
            "at": ("place", "at"),
            "total by many": ("mean", "total", "many"),
        }
        for text, result in results.items():
            for told, flag, place in (("", None, None), ("told if bad else ", "bad", None),
                                      ("told to if bad else ", "bad", "to")):
                read = answer(f"answer one = {told}{text}")
                self.assertEqual((read.name, read.flag, read.place, read.result), ("one", flag, place, result))

    def test_starts_of_keeps(self):
        self.assertEqual(Program.of(*REGISTERS, "answer one = 0").starts, (None, 0))


if __name__ == "__main__":
    unittest.main()
