"""Programs: read, refused and asked (points 2, 8, 9, 10 and 11)."""

import unittest

from unnumbered.errors import BadProgram, NoAnswer, TooMany
from unnumbered.programs import Program
from unnumbered.series import Series
from unnumbered.values import Told, Unnumbered

RESERVED = (
    "x before nothing here min max if else and or not in is told by skip leave set keep flag sum "
    "count place steps drop fill hold shift answer"
).split()

REGISTERS = [
    "keep low", "keep high = 0", "flag bad", "flag odd", "sum total", "sum rest",
    "count many", "count few", "place at", "place to",
]
HEAD = len(REGISTERS)

# Lines as they may be given, and as written.
STATEMENTS = (
    ("low = x", None),
    ("low = before", None),
    ("low = 0", None),
    ("low = nothing", None),
    ("low = high", None),
    ("low = low", None),
    ("low = min(low, x)", None),
    ("low = max(min(x, before), max(0, nothing))", None),
    ("at = here", None),
    ("at = to", None),
    ("at = at", None),
    ("set bad", None),
    ("total += x", None),
    ("total -= max(low, x)", None),
    ("many += 1", None),
    ("skip", None),
    ("leave", None),
    ("skip if bad", None),
    ("leave if not bad", None),
    ("set bad if x != x", None),
    ("at = here if x is nothing", None),
    ("at = to if x in (0)", None),
    ("many += 1 if x in (0, low, min(low, x), nothing)", None),
    ("total += x if total == total", None),
    ("total -= x if rest != rest", None),
    ("low = x if x < low or x <= low or x > low or x >= low or x == low or x != low", None),
    ("low = x if bad and odd or not bad and not odd", None),
    ("low = x if not not (bad or (x < 0 and (odd)))", None),
    ("low = x if (((bad)))", None),
    ("low = x if min(low, x) == max(low, x)", None),
    ("low = x if nothing is nothing", None),
    ("low = x if not x is nothing", None),
    ("low=x", "low = x"),
    ("  low   =  min  (  low  ,  x  )  ", "low = min(low, x)"),
    ("low=max(min(x,0),high)if x<low or(not bad)", "low = max(min(x, 0), high) if x < low or (not bad)"),
    ("low = 0if 0<=x and x in(0,low)", "low = 0 if 0 <= x and x in (0, low)"),
    ("low = x if not(bad)and( odd )", "low = x if not (bad) and (odd)"),
    ("low = x if x is   nothing", "low = x if x is nothing"),
    ("many+=1if bad", "many += 1 if bad"),
    ("total-=x", "total -= x"),
    ("total +=0", "total += 0"),
    ("low = x if total!=total", "low = x if total != total"),
    ("low = x if x>=0or x!=0", "low = x if x >= 0 or x != 0"),
    (" skip ", "skip"),
)

# Answers without their names, and their kinds.
RESULTS = (
    ("low", "value"),
    ("0", "value"),
    ("nothing", "value"),
    ("min(low, max(high, 0))", "value"),
    ("bad", "truth"),
    ("total", "sum"),
    ("many", "count"),
    ("at", "place"),
    ("total by many", "mean"),
    ("told if bad else low", "value"),
    ("told if bad else odd", "truth"),
    ("told at if bad else rest", "sum"),
    ("told at if odd else few", "count"),
    ("told to if odd else at", "place"),
    ("told at if bad else rest by few", "mean"),
    ("told at if bad else max(low, nothing)", "value"),
)

WRONG_REGISTERS = (
    "keep", "keep low high", "keep low =", "keep low = 1", "keep low = x", "keep low = nothing",
    "keep low = 0 0", "keep low == 0", "keep = 0", "keep 0", "flag bad = 0", "sum total = 0",
    "count many = 0", "place at = 0", "keep low, high", "keep lowlowlow", "keep Low", "keep low1",
    "keep low0", "keepers low", "keep\tlow", "keep low;", "Keep low", "flag", "keep low # low",
    "keep \u00e9",
)

WRONG_STEPS = (
    "steps", "steps drop,", "steps , drop", "steps drop fill", "steps drop,, fill", "steps low",
    "steps skip", "steps (drop)", "steps x", "steps drop; fill", "steps = drop", "step drop",
    "steps Drop", "steps 0",
)

WRONG_STATEMENTS = (
    "", " ", "    ", "\t", "\r", "low", "low =", "low = x x", "low = 1", "low = bad", "low = total",
    "low = many", "low = at", "low = here", "low = nix", "low == x", "low += x", "low -= x",
    "low = min(low)", "low = min(low, x, 0)", "low = min low, x", "low = min()", "low = min(low, x",
    "low = min(low, bad)", "low = (x)", "low = min((x), 0)", "low = - x", "low = x + 1",
    "low = 00", "low = 10", "low = told", "low = max", "low = x, 0",
    "x = low", "before = low", "nix = low", "0 = low", "min = low", "bad = x", "total = x",
    "at = x", "at = 0", "at = nothing", "at = low", "at = nix", "at += 1", "at", "at = here here",
    "set", "set low", "set total", "set nix", "set bad odd", "set bad = 0", "set x",
    "total += ", "total += many", "total += rest", "total += bad", "total + = x", "total =+ x",
    "total -= here", "total", "many += x", "many += 0", "many += 11", "many -= 1", "many = 1",
    "many += 1 1", "many", "skip skip", "skip 0", "leave leave", "leave low", "skip, leave",
    "if bad", "here", "told", "low = x; skip", "low = x # why", "LOW = x", "low = X", "!", "+", "-",
    "low = x if", "low = x if if bad", "low = x if bad if odd", "low = x if low", "low = x if x",
    "low = x if 0", "low = x if x low", "low = x if x odd", "low = x if x nothing", "low = x if x ,",
    "low = x if (x)", "low = x if nothing", "low = x if many", "low = x if at",
    "low = x if total", "low = x if nix", "low = x if at == at", "low = x if many == many",
    "low = x if bad == bad", "low = x if bad == odd", "low = x if total == rest",
    "low = x if total < total", "low = x if total <= total", "low = x if total == x",
    "low = x if x == total", "low = x if total is nothing", "low = x if total in (0)",
    "low = x if total ==", "low = x if x = low", "low = x if x < low < high", "low = x if x <",
    "low = x if x < bad", "low = x if x < 1", "low = x if < x", "low = x if x is", "low = x if x is 0",
    "low = x if x is not nothing", "low = x if bad is nothing", "low = x if x not in (0)",
    "low = x if x in 0", "low = x if x in ()", "low = x if x in (0,)", "low = x if x in (, 0)",
    "low = x if x in (0", "low = x if x in (0 low)", "low = x if x in (bad)", "low = x if x in (x < 0)",
    "low = x if not", "low = x if bad not", "low = x if bad and", "low = x if and bad",
    "low = x if bad or", "low = x if or bad", "low = x if bad odd", "low = x if bad and or odd",
    "low = x if ()", "low = x if (bad", "low = x if bad)", "low = x if (bad))", "low = x if ((bad)",
    "low = x if (x) < low", "low = x if (x < low) < low", "low = x if not (x) < 0", "low = x if x ! = 0",
    "low = x if x < = 0", "low = x if x = = 0", "low = x if x <> 0", "low = x if x === 0",
    "low = x if x =< 0", "low = x if x => 0", "low = x if bad & odd", "low = x else 0",
    "low = x if min(low, x)", "low = x if min(low, x) is", "low = x if here is nothing",
    "low = x if here == at", "low = x if told", "lowlowlow = x", "low = lo w", "steps drop",
    "keep more", "flag more", "sum more", "count more", "place more",
)

WRONG_ANSWERS = (
    "answer", "answer one", "answer one =", "answer = low", "answer one low", "answer one == low",
    "answer one = x", "answer one = before", "answer one = here", "answer one = 1", "answer one = nix",
    "answer one = min(low, x)", "answer one = max(before, low)", "answer one = min(low)",
    "answer one = min(low, bad)", "answer one = (low)", "answer one = low high", "answer one = low = high",
    "answer one = low < high", "answer one = not bad", "answer one = low if bad", "answer one = total by",
    "answer one = total by total", "answer one = many by total", "answer one = total by at",
    "answer one = total by many by few", "answer one = low by many", "answer one = total by 1",
    "answer one = by many", "answer one = told", "answer one = told low", "answer one = told else low",
    "answer one = told if else low", "answer one = told if bad", "answer one = told if bad else",
    "answer one = told if low else low", "answer one = told if not bad else low",
    "answer one = told if x < low else low", "answer one = told low if bad else low",
    "answer one = told many if bad else low", "answer one = told here if bad else low",
    "answer one = told at to if bad else low", "answer one = told at if at else low",
    "answer one = told if bad else x", "answer one = told if bad else told if odd else low",
    "answer one = told if bad else low else high", "answer one = told at if bad low",
    "answer oneoneone = low", "answer One = low", "answer 0 = low", "answer one, two = low",
    "answer one = total += low", "answer one = low;", "answer one = skip", "answers one = low",
    "answer", "answer one = total == total",
)


class ProgramTest(unittest.TestCase):
    def refused(self, line, text):
        with self.assertRaises(BadProgram, msg=repr(text)) as caught:
            Program(text)
        self.assertEqual(caught.exception.line, line, repr(text))

    def too_many(self, what, *lines):
        with self.assertRaises(TooMany) as caught:
            Program.of(*lines)
        self.assertEqual(caught.exception.what, what)


class Read(ProgramTest):
    def test_all_parts(self):
        program = Program.of(
            "place at", "keep low", "sum total", "flag bad", "keep high=0", "count many", "sum rest",
            "steps  hold ,drop,hold", "skip if bad", "low=x", "answer low = low", "answer two = rest",
        )
        self.assertEqual(program.keeps, ("low", "high"))
        self.assertEqual(program.flags, ("bad",))
        self.assertEqual(program.sums, ("total", "rest"))
        self.assertEqual(program.counts, ("many",))
        self.assertEqual(program.places, ("at",))
        self.assertEqual(program.steps, ("hold", "drop", "hold"))
        self.assertEqual(program.statements, ("skip if bad", "low = x"))
        self.assertEqual(program.answers, ("low", "two"))
        self.assertEqual(len(program), 2)
        self.assertEqual(str(program).split("\n"), [
            "place at", "keep low", "sum total", "flag bad", "keep high = 0", "count many", "sum rest",
            "steps hold, drop, hold", "skip if bad", "low = x", "answer low = low", "answer two = rest",
        ])

    def test_answer_alone(self):
        program = Program("answer one = 0")
        parts = (program.keeps, program.flags, program.sums, program.counts, program.places)
        self.assertEqual(parts, ((), (), (), (), ()))
        self.assertEqual((program.steps, program.statements), ((), ()))
        self.assertEqual((program.answers, len(program), str(program)), (("one",), 0, "answer one = 0"))

    def test_attributes_are_tuples(self):
        program = Program.of(*REGISTERS, "steps drop", "skip", "answer one = 0")
        names = "keeps flags sums counts places steps statements answers".split()
        for name in names:
            self.assertIs(type(getattr(program, name)), tuple)
        self.assertEqual(sorted(names), sorted(set(names) & set(vars(program))))

    def test_by_name(self):
        self.assertEqual(str(Program(text="answer one=0")), "answer one = 0")
        self.assertEqual(Program("answer one = 0").kind_of(name="one"), "value")

    def test_of_lines(self):
        program = Program.of("keep low", "low = x", "answer one = low")
        self.assertIs(type(program), Program)
        self.assertTrue(program == Program("keep low\nlow = x\nanswer one = low"))

    def test_statements(self):
        for given, as_written in STATEMENTS:
            program = Program.of(*REGISTERS, given, "answer one = low")
            self.assertEqual(program.statements, (as_written or given,))
            self.assertEqual(str(program), "\n".join([*REGISTERS, as_written or given, "answer one = low"]))

    def test_results_and_kinds(self):
        for result, kind in RESULTS:
            line = f"answer one = {result}"
            program = Program.of(*REGISTERS, line)
            self.assertEqual(program.kind_of("one"), kind)
            self.assertEqual(str(program), "\n".join([*REGISTERS, line]))
            without_spaces = line.replace(", ", ",").replace(" = ", "=")
            self.assertTrue(Program.of(*REGISTERS, without_spaces) == program)

    def test_each_step(self):
        for step in ("drop", "fill", "hold", "shift"):
            self.assertEqual(Program.of(f" steps {step}", "answer one = 0").steps, (step,))
        program = Program.of("steps shift,shift , fill", "answer one = 0")
        self.assertEqual(program.steps, ("shift", "shift", "fill"))
        self.assertEqual(str(program), "steps shift, shift, fill\nanswer one = 0")

    def test_names(self):
        for name in ("a", "abcdefgh", "xx", "lo", "told".replace("t", "b"), "answers", "nots"):
            program = Program.of(f"keep {name}", f"{name} = x", f"answer {name} = {name}")
            self.assertEqual((program.keeps, program.answers), ((name,), (name,)))

    def test_kinds_of_names_decide(self):
        lines = ("a = b", "answer one = a")
        self.assertEqual(Program.of("keep a", "keep b", *lines).kind_of("one"), "value")
        self.assertEqual(Program.of("place a", "place b", *lines).kind_of("one"), "place")
        self.refused(2, "\n".join(["keep a", "place b", *lines]))
        self.refused(2, "\n".join(["place a", "keep b", *lines]))

    def test_nests_of_ten_and_more(self):
        for deep in (10, 11, 30):
            term = "min(" * deep + "x" + ", 0)" * deep
            brackets = "(" * deep + "bad" + ")" * deep
            nots = "not " * deep + "bad"
            mixed = "not (" * deep + "x < low" + ")" * deep
            for line in (
                f"low = {term}", f"low = x if {brackets}", f"low = x if {nots}", f"low = x if {mixed}",
                f"low = x if {term} is nothing", f"low = x if x in (0, {term})",
            ):
                self.assertEqual(Program.of(*REGISTERS, line, "answer one = 0").statements, (line,))
            result = "max(low, " * deep + "high" + ")" * deep
            self.assertEqual(Program.of(*REGISTERS, f"answer one = {result}").kind_of("one"), "value")
            self.refused(HEAD, "\n".join([*REGISTERS, f"low = {term})", "answer one = 0"]))
            self.refused(HEAD, "\n".join([*REGISTERS, f"low = x if ({brackets}", "answer one = 0"]))

    def test_long_lines(self):
        for many in (40, 140):
            line = "low = x if bad" + " or bad" * many
            self.assertTrue(200 < len(line) < 1000)
            self.assertEqual(Program.of(*REGISTERS, line, "answer one = 0").statements, (line,))
        spaces = " " * 300
        program = Program.of(*REGISTERS, f"low{spaces}= x", f"answer one = 0{spaces}")
        self.assertEqual(program.statements, ("low = x",))


class Refused(ProgramTest):
    def test_no_string(self):
        for thing in (None, 3, True, [], ["answer one = 0"], ("answer one = 0",), Series([1]), Unnumbered("a")):
            self.refused(-1, thing)
        self.refused(-1, Program("answer one = 0"))

    def test_empty_lines(self):
        self.refused(0, "")
        self.refused(0, " ")
        self.refused(0, "\n")
        self.refused(0, "\nanswer one = 0")
        self.refused(1, "keep low\n\nanswer one = low")
        self.refused(1, "keep low\n  \nanswer one = low")
        self.refused(1, "answer one = 0\n")
        self.refused(1, "answer one = 0\n ")

    def test_no_answer(self):
        self.refused(1, "keep low")
        self.refused(3, "keep low\nsteps drop\nlow = x")
        self.refused(HEAD, "\n".join(REGISTERS))

    def test_a_wrong_line_goes_ahead_of_no_answer(self):
        self.refused(1, "keep low\nlow = y")

    def test_the_first_wrong_line(self):
        self.refused(1, "keep low\nkeep low\nlow = y\nanswer one = low")
        self.refused(2, "keep low\nlow = x\nlow = y\nlow = z")

    def test_wrong_registers(self):
        for line in WRONG_REGISTERS:
            self.refused(0, f"{line}\nanswer one = 0")
            self.refused(1, f"place more\n{line}\nanswer one = 0")

    def test_wrong_steps(self):
        for line in WRONG_STEPS:
            self.refused(HEAD, "\n".join([*REGISTERS, line, "answer one = 0"]))

    def test_wrong_statements(self):
        for line in WRONG_STATEMENTS:
            self.refused(HEAD + 1, "\n".join([*REGISTERS, "low = x", line, "answer one = 0"]))

    def test_wrong_answers(self):
        for line in WRONG_ANSWERS:
            self.refused(HEAD, "\n".join([*REGISTERS, line, "answer two = 0"]))
            self.refused(HEAD + 1, "\n".join([*REGISTERS, "answer two = 0", line]))

    def test_characters(self):
        for character in "!\"#$&'*./:;?@[]\\^_`{|}~23456789ABCXYZ\t\r\x00\u00e9+-":
            self.refused(1, f"keep low\nlow = x {character}\nanswer one = low")
            self.refused(2, f"keep low\nlow = x\nanswer{character} one = low")

    def test_reserved_names(self):
        self.assertEqual(len(RESERVED), 29)
        for word in RESERVED:
            for kind in ("keep", "flag", "sum", "count", "place"):
                self.refused(0, f"{kind} {word}\nanswer one = 0")
            self.refused(0, f"answer {word} = 0")

    def test_names_declared_twice(self):
        kinds = ("keep", "flag", "sum", "count", "place")
        for one in kinds:
            for other in kinds:
                self.refused(1, f"{one} low\n{other} low\nanswer one = 0")
        self.refused(1, "keep low = 0\nkeep low\nanswer one = 0")
        self.refused(1, "answer one = 0\nanswer one = nothing")
        self.refused(2, "answer one = 0\nanswer two = 0\nanswer one = 0")

    def test_names_not_declared(self):
        for line in ("low = x", "set low", "low += 1", "low += x", "low = here", "skip if low"):
            self.refused(0, f"{line}\nanswer one = 0")
        for result in ("low", "told if low else 0", "min(low, 0)", "one"):
            self.refused(0, f"answer one = {result}")

    def test_answers_are_no_registers(self):
        self.refused(1, "answer one = 0\nanswer two = one")

    def test_lines_of_a_part_that_is_over(self):
        lines = ["keep low", "steps drop", "low = x", "answer one = low"]
        late = ("keep more", "steps fill", "low = 0", "answer two = low")
        for at in range(1, 4):
            text = "\n".join(lines[:at + 1])
            for line in late[:at]:
                self.refused(at + 1, f"{text}\n{line}\nanswer three = 0")
        for kind in ("flag", "sum", "count", "place"):
            self.refused(2, f"keep low\nsteps drop\n{kind} more\nanswer one = 0")
            self.refused(2, f"keep low\nlow = x\n{kind} more\nanswer one = 0")
            self.refused(1, f"answer one = 0\n{kind} more")

    def test_second_line_of_steps(self):
        self.refused(1, "steps drop\nsteps fill\nanswer one = 0")
        self.refused(1, "steps drop\nsteps drop\nanswer one = 0")


class Limits(ProgramTest):
    LIMITS = (
        ("keeps", "keep", 3), ("flags", "flag", 2), ("sums", "sum", 2), ("counts", "count", 2),
        ("places", "place", 2),
    )

    @staticmethod
    def registers(word, many):
        return [f"{word} {word[0]}{letter}" for letter in "pqrst"[:many]]

    def test_registers(self):
        for what, word, most in self.LIMITS:
            program = Program.of(*self.registers(word, most), "answer one = 0")
            self.assertEqual(len(getattr(program, what)), most)
            for many in (most + 1, most + 2):
                self.too_many(what, *self.registers(word, many), "answer one = 0")

    def test_all_registers_at_once(self):
        lines = []
        for _, word, most in self.LIMITS:
            lines = [*lines, *self.registers(word, most)]
        self.assertEqual(len(str(Program.of(*lines, "answer one = 0")).split("\n")), 12)

    def test_steps(self):
        self.assertEqual(len(Program.of("steps drop, fill, hold", "answer one = 0").steps), 3)
        self.too_many("steps", "steps drop, fill, hold, shift", "answer one = 0")
        self.too_many("steps", "steps drop, drop, drop, drop", "answer one = 0")

    def test_statements(self):
        self.assertEqual(len(Program.of(*["skip"] * 10, "answer one = 0")), 10)
        self.too_many("statements", *["skip"] * 11, "answer one = 0")

    def test_answers(self):
        lines = [f"answer {letter} = 0" for letter in "abcde"]
        self.assertEqual(Program.of(*lines[:4]).answers, ("a", "b", "c", "d"))
        self.too_many("answers", *lines)

    def test_their_order(self):
        parts = [self.registers(word, most + 1) for _, word, most in self.LIMITS]
        parts = [*parts, ["steps drop, fill, drop, fill"], ["skip"] * 11]
        parts = [*parts, [f"answer {letter} = 0" for letter in "abcde"]]
        names = [what for what, _, _ in self.LIMITS] + ["steps", "statements", "answers"]
        for at, what in enumerate(names):
            self.too_many(what, *[line for part in parts[at:] for line in part])

    def test_the_order_is_not_that_of_the_lines(self):
        self.too_many("keeps", "flag a", "flag b", "flag c", "keep d", "keep e", "keep f", "keep g", "answer one = 0")

    def test_a_wrong_line_goes_ahead(self):
        keeps = self.registers("keep", 4)
        self.refused(4, "\n".join([*keeps, "low = y", "answer one = 0"]))
        self.refused(4, "\n".join(keeps))
        self.refused(5, "\n".join([*keeps, "answer one = 0", "answer one = 0"]))
        self.refused(12, "\n".join([*["skip"] * 12]))


class Asked(ProgramTest):
    def test_kind_of_every_answer(self):
        program = Program.of(
            *REGISTERS, "answer one = total by many", "answer total = low", "answer low = bad", "answer bad = at",
        )
        kinds = [program.kind_of(name) for name in program.answers]
        self.assertEqual(kinds, ["mean", "value", "truth", "place"])

    def test_no_answer(self):
        program = Program.of("keep low", "answer one = low")
        for name in ("low", "two", "", "one ", None, 0, True, [], ["one"], ("one",), Unnumbered("one"), program):
            with self.assertRaises(NoAnswer) as caught:
                program.kind_of(name)
            self.assertIs(caught.exception.name, name)

    def test_equal(self):
        program = Program("keep low\nlow = min(low, x)\nanswer one = low")
        self.assertTrue(program == Program(" keep  low\nlow=min( low,x )\nanswer one=low"))
        self.assertFalse(program != Program(" keep  low\nlow=min( low,x )\nanswer one=low"))
        for text in (
            "keep low\nlow = min(x, low)\nanswer one = low", "keep low\nlow = min(low, x)\nanswer two = low",
            "keep low = 0\nlow = min(low, x)\nanswer one = low", "keep low\nanswer one = low",
            "keep low\nlow = min(low, x) if (low is nothing)\nanswer one = low",
        ):
            self.assertFalse(program == Program(text))
            self.assertTrue(program != Program(text))

    def test_brackets_are_written(self):
        one = Program.of("flag bad", "skip if (bad)", "answer one = bad")
        other = Program.of("flag bad", "skip if bad", "answer one = bad")
        self.assertFalse(one == other)

    def test_equal_to_nothing_of_another_class(self):
        program = Program("answer one = 0")
        for thing in ("answer one = 0", None, 0, [], Series([]), Told(None), Unnumbered("a"), program.answers):
            self.assertFalse(program == thing)
            self.assertTrue(program != thing)
            self.assertFalse(thing == program)

    def test_written_text_is_read_again(self):
        for given, _ in STATEMENTS:
            program = Program.of(*REGISTERS, given, "answer one = told at if bad else total by many")
            self.assertTrue(Program(str(program)) == program)


class Examples(ProgramTest):
    PROGRAMS = (
        ("keep last", "keep late", "steps drop, shift", "late = before", "last = x", "answer one = last",
         "answer two = late"),
        ("flag bad", "place at", "count many", "at = here if x != x and not bad", "set bad if x != x",
         "many += 1", "answer size = told at if bad else many"),
        ("keep low", "low = min(low, x) if (x < low) or low is nothing", "answer least = low"),
        ("keep low", "low = min(low, x) if (not low <= x) or low is nothing", "answer least = low"),
        ("sum total", "total += x", "answer all = total"),
        ("keep low", "low = x if low is nothing", "low = min(low, x)", "answer least = low"),
        ("keep low", "low = x if x == x and low is nothing", "low = min(low, x)", "answer least = low"),
        ("keep low", "low = x if x == x and low is nothing", "low = min(x, low) if not low is nothing",
         "answer least = low"),
        ("keep low", "sum total", "low = x if low is nothing or x < low", "total += x", "answer least = low",
         "answer all = total"),
        ("keep low", "sum total", "low = x if x == x and (low is nothing or x < low)", "total += x",
         "answer least = low", "answer all = total"),
    )

    def test_of_the_document(self):
        for lines in self.PROGRAMS:
            program = Program.of(*lines)
            self.assertEqual(str(program), "\n".join(lines))
            statements = [line for line in lines if line.split()[0] in ("low", "late", "last", "at", "set", "many", "total")]
            self.assertEqual(program.statements, tuple(statements))

    def test_their_kinds(self):
        kinds = {"one": "value", "size": "count", "least": "value", "all": "sum"}
        for lines in self.PROGRAMS:
            program = Program.of(*lines)
            for name in program.answers:
                self.assertEqual(program.kind_of(name), kinds.get(name, "value"))


if __name__ == "__main__":
    unittest.main()
