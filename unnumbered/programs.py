"""Programs: registers, steps, statements and answers, as they are written in lines."""

from unnumbered.drafts import Draft
from unnumbered.errors import BadProgram, NoAnswer, TooMany
from unnumbered.tokens import WrongLine, tokens_of

# The most that a program has of each part, in the order in which this is checked.
LIMITS = {
    "keeps": 3,
    "flags": 2,
    "sums": 2,
    "counts": 2,
    "places": 2,
    "steps": 3,
    "statements": 10,
    "answers": 4,
}


class Program:
    """A program, and how it was read.

    starts is a tuple with None or 0 for each keep; read_statements and read_answers are tuples
    of the Statement and Answer objects that stand for the statements and the answers; lines is
    a tuple of the lines as written; has_before is whether before stands in a statement.
    """

    def __init__(self, text):
        draft = _draft_of(text)
        self.keeps = draft.names_of("keep")
        self.flags = draft.names_of("flag")
        self.sums = draft.names_of("sum")
        self.counts = draft.names_of("count")
        self.places = draft.names_of("place")
        self.steps = tuple(draft.steps)
        self.statements = tuple(draft.statement_lines)
        self.answers = tuple([answer.name for answer in draft.answers])
        self.starts = tuple(draft.starts)
        self.read_statements = tuple(draft.statements)
        self.read_answers = tuple(draft.answers)
        self.lines = tuple(draft.lines)
        self.has_before = any(["before" in tokens_of(line) for line in self.statements])
        self._check_limits()

    @classmethod
    def of(cls, *lines):
        """The program of these lines."""
        return cls("\n".join(lines))

    def kind_of(self, name):
        """The kind of the answer with this name."""
        for answer in self.read_answers:
            if answer.name == name:
                return answer.result[0]
        raise NoAnswer(name)

    def __len__(self):
        return len(self.statements)

    def __str__(self):
        return "\n".join(self.lines)

    def __eq__(self, other):
        return isinstance(other, Program) and self.lines == other.lines

    def _check_limits(self):
        parts = {
            "keeps": self.keeps,
            "flags": self.flags,
            "sums": self.sums,
            "counts": self.counts,
            "places": self.places,
            "steps": self.steps,
            "statements": self.statements,
            "answers": self.answers,
        }
        for what, most in LIMITS.items():
            if len(parts[what]) > most:
                raise TooMany(what)


def _draft_of(text):
    if not isinstance(text, str):
        raise BadProgram(-1)
    draft = Draft()
    for at, line in enumerate(text.split("\n")):
        try:
            draft.read_line(line)
        except WrongLine:
            raise BadProgram(at) from None
    if len(draft.answers) == 0:
        raise BadProgram(len(draft.lines))
    return draft
