"""Runs of programs over series."""

from unnumbered.courses import first_course
from unnumbered.errors import BadEntry
from unnumbered.executing import shown_by
from unnumbered.values import is_entry, is_number


def run(program, series, *, plain=False):
    """The Outcome of the run over a series, or of the plain run."""
    course = first_course(program, 0)
    for entry in series:
        if plain and not is_number(entry):
            course.pass_over()
        else:
            course.advance(entry)
    return _outcome_of(course)


def walk(program, series):
    """The outcomes behind the first entry, behind the second, and so on."""
    course = first_course(program, 0)
    for entry in series:
        course.advance(entry)
        yield _outcome_of(course)


def _outcome_of(course):
    return Outcome(course.program, course.registers, course.held_values(), course.is_left)


class Machine:
    """A run that is fed by hand."""

    def __init__(self, program):
        self._course = first_course(program, 0)

    def __call__(self, entry):
        if not is_entry(entry):
            raise BadEntry(entry)
        return self._course.advance(entry)

    def miss(self):
        """Leaves out the next place."""
        self._course.pass_over()

    @property
    def fed(self):
        """How many places have been fed or left out."""
        return self._course.place

    def outcome(self):
        """The Outcome so far."""
        return _outcome_of(self._course)

    def probe(self, *entries):
        """The Outcome that there would be behind these further entries."""
        course = self._course.copied()
        for entry in entries:
            if not is_entry(entry):
                raise BadEntry(entry)
            course.advance(entry)
        return _outcome_of(course)


class Outcome:
    """What a run has come to: its answers, its registers, and the values that it holds."""

    def __init__(self, program, registers, held, is_left):
        self.answers = {
            answer.name: shown_by(answer, registers).result for answer in program.read_answers
        }
        self.keeps = dict(registers.keeps)
        self.flags = dict(registers.flags)
        self.sums = dict(registers.sums)
        self.counts = dict(registers.counts)
        self.places = dict(registers.places)
        self.parts = {name: dict(parts) for name, parts in registers.parts.items()}
        self.held = tuple(held)
        self.is_left = is_left
