"""Comparing: whether two programs have the same answers, for all series."""

from unnumbered.courses import first_course
from unnumbered.errors import Unlike
from unnumbered.executing import shown_by
from unnumbered.judging import Verdict
from unnumbered.patterns import pattern_of
from unnumbered.series import Series
from unnumbered.trials import are_rows, explored, first_unlike, is_closed, is_headed, trial_of
from unnumbered.values import agree

MOST_SITUATIONS = 150


def compare(one, other, *, unnumbered=True):
    """The Verdict on two programs; for numbers alone if unnumbered is False."""
    name, trials = explored(_question_of(one, other, unnumbered), MOST_SITUATIONS)
    rows = tuple([Series(trial.entries) for trial in trials])
    if name is None:
        return Verdict(("alike", rows))
    return Verdict(("parted", name, rows[0]))


def is_comparison(one, other, thing, *, unnumbered=True):
    """Whether any value is a certificate for two programs."""
    question = _question_of(one, other, unnumbered)
    if is_headed(thing, "alike", 2):
        rows = thing[1]
        if not are_rows(rows) or not all([question.is_about(row) for row in rows]):
            return False
        return is_closed([trial_of(question, row.entries, None) for row in rows])
    return is_headed(thing, "parted", 3) and _is_parted(question, thing[1], thing[2])


def _is_parted(question, name, series):
    if not isinstance(series, Series) or not question.is_about(series):
        return False
    if name not in question.one.answers:
        return False
    showing = question.showings_of(trial_of(question, series.entries, None))[name]
    return not agree(showing[0].result, showing[1].result)


def _question_of(one, other, unnumbered):
    for name in sorted([str(name) for name in [*one.answers, *other.answers]]):
        if name not in one.answers or name not in other.answers:
            raise Unlike(name)
        if one.kind_of(name) != other.kind_of(name):
            raise Unlike(name)
    return Comparison(one, other, unnumbered)


class Comparison:
    """The question whether the answers of two programs agree."""

    def __init__(self, one, other, unnumbered):
        self.one = one
        self.other = other
        self.has_unnumbered = unnumbered
        self.has_cuts = False

    def is_about(self, series):
        """Whether it is asked of this series."""
        return self.has_unnumbered or len(series.marks()) == 0

    def first_courses(self):
        """The runs of both programs."""
        return [first_course(self.one, 0), first_course(self.other, 0)]

    def feed(self, courses, entry):
        """Feeds the next entry to both."""
        courses[0].advance(entry)
        courses[1].advance(entry)

    def situation_of(self, trial):
        """The situation of a series."""
        return pattern_of(trial.courses, [])

    def showings_of(self, trial):
        """What each answer shows in both runs."""
        one, other = [course.registers for course in trial.courses]
        others = {answer.name: shown_by(answer, other) for answer in self.other.read_answers}
        return {
            answer.name: (shown_by(answer, one), others[answer.name])
            for answer in self.one.read_answers
        }

    def wrong_answer(self, trial):
        """The name of the first answer that does not surely agree, or None."""
        return first_unlike(self.showings_of(trial))
