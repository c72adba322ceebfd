"""Drafts: what the lines of a program say, read one by one."""

from unnumbered.grammar import Reader
from unnumbered.statements import read_answer, read_statement
from unnumbered.tokens import WrongLine, tokens_of, written
from unnumbered.values import is_word

RESERVED = (
    "x", "before", "nothing", "here", "min", "max", "if", "else", "and", "or", "not", "in", "is",
    "told", "by", "skip", "leave", "set", "keep", "flag", "sum", "count", "place", "steps",
    "drop", "fill", "hold", "shift", "answer",
)

STEPS = ("drop", "fill", "hold", "shift")

KINDS = ("keep", "flag", "sum", "count", "place")

# Lines stand in this order, after their first token; those without one of these are statements.
PARTS = {"keep": 0, "flag": 0, "sum": 0, "count": 0, "place": 0, "steps": 1, "answer": 3}
STATEMENT_PART = 2


class Draft:
    """What the lines of a program say that were read so far.

    kinds is a dict from each register to its kind, starts a list with None or 0 for each keep.
    """

    def __init__(self):
        self.part = 0
        self.kinds = {}
        self.starts = []
        self.steps = []
        self.statements = []
        self.answers = []
        self.lines = []
        self.statement_lines = []

    def names_of(self, kind):
        """The names of the registers of this kind, a tuple."""
        return tuple([name for name, its_kind in self.kinds.items() if its_kind == kind])

    def read_line(self, line):
        """Reads one more line; raises WrongLine."""
        tokens = tokens_of(line)
        if len(tokens) == 0:
            raise WrongLine("an empty line")
        self._enter_part(tokens[0])
        if tokens[0] in KINDS:
            self._read_register(tokens)
        elif tokens[0] == "steps":
            self._read_steps(tokens)
        elif tokens[0] == "answer":
            self._read_answer(tokens)
        else:
            self.statements.append(read_statement(tokens, self.kinds))
            self.statement_lines.append(written(tokens))
        self.lines.append(written(tokens))

    def _enter_part(self, first):
        part = PARTS.get(first, STATEMENT_PART)
        if part < self.part or first == "steps" and len(self.steps) > 0:
            raise WrongLine("a line of a part that is over")
        self.part = part

    def _read_register(self, tokens):
        reader = Reader(tokens, {}, False)
        kind = reader.take()
        name = reader.take()
        if not _is_name(name) or name in self.kinds:
            raise WrongLine("no name for a further one")
        start = None
        if kind == "keep" and reader.skip_if("="):
            reader.expect("0")
            start = 0
        reader.expect_end()
        self.kinds[name] = kind
        if kind == "keep":
            self.starts.append(start)

    def _read_steps(self, tokens):
        reader = Reader(tokens, {}, False)
        reader.expect("steps")
        self.steps.append(_step(reader))
        while reader.skip_if(","):
            self.steps.append(_step(reader))
        reader.expect_end()

    def _read_answer(self, tokens):
        answer = read_answer(tokens, self.kinds)
        if not _is_name(answer.name) or answer.name in [known.name for known in self.answers]:
            raise WrongLine("no name for a further answer")
        self.answers.append(answer)


def _is_name(token):
    return is_word(token) and token not in RESERVED


def _step(reader):
    token = reader.take()
    if token not in STEPS:
        raise WrongLine("no step")
    return token
