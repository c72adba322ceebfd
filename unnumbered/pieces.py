"""Pieces: whether the registers of two pieces of a series can be merged, for all cuts."""

from unnumbered.courses import first_course
from unnumbered.errors import BadMerge, TooMany
from unnumbered.executing import shown_by
from unnumbered.judging import Verdict
from unnumbered.merging import merged_registers
from unnumbered.patterns import pattern_of
from unnumbered.running import Outcome
from unnumbered.series import MOST_ENTRIES, Series
from unnumbered.statements import read_merge_line
from unnumbered.tokens import CAPITALS, LETTERS, WrongLine, tokens_of, written
from unnumbered.trials import explored, first_unlike, is_closed, is_headed, trial_of
from unnumbered.values import agree, is_number

MOST_SITUATIONS = 250
MOST_LINES = 8


def merged(program, merge, one, other):
    """The Outcome of the merged registers of two pieces of a series."""
    whole = one + other
    trial = trial_of(Cutting(program, merge), whole.entries, len(one))
    registers = merged_registers(merge, trial.courses[1].registers, trial.courses[2].registers)
    held = [registers.keeps[name] for name in program.keeps]
    return Outcome(program, registers, held, trial.courses[1].is_left)


def pieces(program, merge):
    """The Verdict on a program and a merge for it."""
    name, trials = explored(Cutting(program, merge), MOST_SITUATIONS)
    rows = tuple([(Series(trial.entries), trial.cut) for trial in trials])
    if name is None:
        return Verdict(("fits", rows))
    return Verdict(("parted", name, *rows[0]))


def is_cutting(program, merge, thing):
    """Whether any value is a certificate for a program and a merge for it."""
    question = Cutting(program, merge)
    if is_headed(thing, "fits", 2):
        rows = thing[1]
        if not isinstance(rows, tuple) or not all([_is_row(row) for row in rows]):
            return False
        return is_closed([trial_of(question, series.entries, cut) for series, cut in rows])
    return is_headed(thing, "parted", 4) and _is_parted(question, thing[1], thing[2], thing[3])


def _is_row(thing):
    if not isinstance(thing, tuple) or len(thing) != 2 or not isinstance(thing[0], Series):
        return False
    series, cut = thing
    return len(series) < MOST_ENTRIES and (cut is None or _is_cut(series, cut))


def _is_cut(series, cut):
    return is_number(cut) and 0 <= cut <= len(series)


def _is_parted(question, name, series, cut):
    if not isinstance(series, Series) or not _is_cut(series, cut):
        return False
    if name not in question.program.answers:
        return False
    showing = question.showings_of(trial_of(question, series.entries, cut))[name]
    return not agree(showing[0].result, showing[1].result)


class Merge:
    """How the registers of the runs over two pieces of a series are put together.

    read_lines is a tuple of the Statement objects that stand for the lines; lines is a tuple of
    the lines as written.
    """

    def __init__(self, program, text):
        if not isinstance(text, str):
            raise BadMerge(-1)
        kinds = _kinds(program)
        statements = []
        lines = []
        for at, line in enumerate([] if text == "" else text.split("\n")):
            try:
                tokens = tokens_of(line, LETTERS + CAPITALS)
                statements.append(read_merge_line(tokens, kinds))
                lines.append(written(tokens))
            except WrongLine:
                raise BadMerge(at) from None
        if len(lines) > MOST_LINES:
            raise TooMany("lines")
        self.read_lines = tuple(statements)
        self.lines = tuple(lines)

    def __len__(self):
        return len(self.lines)

    def __str__(self):
        return "\n".join(self.lines)


def _kinds(program):
    """A dict from the names that may stand in a merge to their kinds."""
    kinds = {}
    registers = {"keep": program.keeps, "flag": program.flags, "sum": program.sums, "place": program.places}
    for kind, names in registers.items():
        for name in names:
            kinds[name] = kind
            kinds[name.upper()] = kind
    return kinds


class Cutting:
    """The question whether the answers of a program agree with those of merged pieces."""

    def __init__(self, program, merge):
        self.program = program
        self.merge = merge
        self.has_unnumbered = True
        self.has_cuts = True

    def first_courses(self):
        """The run over the series alone, as it has no cut."""
        return [first_course(self.program, 0)]

    def feed(self, courses, entry):
        """Feeds the next entry to the whole run, and to that of the second piece if there is one."""
        courses[0].advance(entry)
        if len(courses) > 1:
            courses[2].advance(entry)

    def situation_of(self, trial):
        """The situation of a cut series."""
        return (trial.cut is None, pattern_of(trial.courses, []))

    def showings_of(self, trial):
        """What each answer shows in the whole run and of the merged registers, if there is a cut."""
        if trial.cut is None:
            return {}
        whole, first, second = [course.registers for course in trial.courses]
        other = merged_registers(self.merge, first, second)
        return {
            answer.name: (shown_by(answer, whole), shown_by(answer, other))
            for answer in self.program.read_answers
        }

    def wrong_answer(self, trial):
        """The name of the first answer that does not surely agree, or None."""
        return first_unlike(self.showings_of(trial))
