"""Trials: series with the runs over them, and how they are gone through situation by situation.

What is asked of the runs is a question, an object with
    has_unnumbered       whether its series have unnumbered entries
    has_cuts             whether its series are cut
    first_courses()      the runs ahead of the first entry, a list
    feed(courses, entry) feeds the next entry to them
    situation_of(trial)  the situation of a trial, as a tuple that can be a key
    showings_of(trial)   a dict from names of answers to tuples of the two Shown that must agree
    wrong_answer(trial)  the name of the first answer that surely is not as it must be, or None
"""

from unnumbered.courses import first_course
from unnumbered.errors import TooMany
from unnumbered.executing import surely_agree
from unnumbered.patterns import are_roomy, next_entries, ordered
from unnumbered.series import MOST_ENTRIES, Series
from unnumbered.values import agree, is_number


class Trial:
    """A series, a tuple, perhaps with a cut, and the runs over it that a question looks at."""

    def __init__(self, question, entries, cut, courses):
        self.question = question
        self.entries = entries
        self.cut = cut
        self.courses = courses

    def feed_all(self, entry):
        """Adds an entry."""
        self.question.feed(self.courses, entry)
        self.entries = (*self.entries, entry)

    def with_entry(self, entry):
        """The trial with one more entry."""
        courses = [course.copied() for course in self.courses]
        longer = Trial(self.question, self.entries, self.cut, courses)
        longer.feed_all(entry)
        return longer

    def with_next_entries(self):
        """The trials with each of the next entries."""
        entries = next_entries(self.courses, self.question.has_unnumbered)
        return [self.with_entry(entry) for entry in entries]

    def cut_here(self):
        """The trial with a cut behind its last entry."""
        whole = self.courses[0]
        place = len(self.entries)
        courses = [whole.copied(), whole.copied(), first_course(whole.program, place)]
        return Trial(self.question, self.entries, place, courses)

    def with_cuts(self):
        """The trial itself, and, if it has no cut and may have one, the one that is cut here."""
        if self.question.has_cuts and self.cut is None:
            return [self, self.cut_here()]
        return [self]

    def is_empty(self):
        """Whether it is the series without entries and without a cut."""
        return len(self.entries) == 0 and self.cut is None


def trial_of(question, entries, cut):
    """The trial of a series, and a cut or None."""
    trial = Trial(question, (), None, question.first_courses())
    for place, entry in enumerate(entries):
        if place == cut:
            trial = trial.cut_here()
        trial.feed_all(entry)
    return trial.cut_here() if cut == len(entries) else trial


def explored(question, most):
    """Goes through the situations; a tuple of a name and a list of trials.

    The name is that of an answer that is not as it must be in the one trial of the list, which is
    a shortest one; or None, and the list has one trial of each situation.
    """
    known = {}
    found = []
    trials = trial_of(question, (), None).with_cuts()
    while len(trials) > 0:
        fresh = []
        for trial in trials:
            name = question.wrong_answer(trial)
            if name is not None:
                return (name, [_really_wrong(trial, name)])
            situation = question.situation_of(trial)
            if situation not in known:
                known[situation] = True
                fresh.append(trial)
        if len(known) > most:
            raise TooMany("situations")
        rows = [trial_of(question, _spread(row.entries), row.cut) for row in fresh]
        found.extend(rows)
        longer = [further for row in rows for further in row.with_next_entries()]
        trials = [further for row in longer for further in row.with_cuts()]
    return (None, found)


def is_headed(thing, word, many):
    """Whether any value is a tuple of so many items, of which the first is this word."""
    return isinstance(thing, tuple) and len(thing) == many and thing[0] == word


def are_rows(thing):
    """Whether any value is a tuple of series that may stand in a closed list."""
    return isinstance(thing, tuple) and all(
        [isinstance(row, Series) and len(row) < MOST_ENTRIES for row in thing]
    )


def is_closed(trials):
    """Whether the series of some trials for one question are a closed list."""
    if not any([trial.is_empty() for trial in trials]):
        return False
    known = {trial.question.situation_of(trial): True for trial in trials}
    return all([_is_closed_at(trial, known) for trial in trials])


def _is_closed_at(trial, known):
    question = trial.question
    if not are_roomy(trial.courses):
        return False
    for further in [*trial.with_cuts(), *trial.with_next_entries()]:
        if question.wrong_answer(further) is not None:
            return False
        if question.situation_of(further) not in known:
            return False
    return True


def first_unlike(showings):
    """The first name in a dict to tuples of two Shown that do not surely agree, or None."""
    for name, (one, other) in showings.items():
        if not surely_agree(one, other):
            return name
    return None


def _spread(entries):
    """The entries with roomy numbers in their order instead of theirs."""
    numbers = ordered(entries)
    at_zero = numbers.index(0)
    spread = {number: 2 * (at - at_zero) for at, number in enumerate(numbers)}
    return tuple([spread[entry] if is_number(entry) else entry for entry in entries])


def _really_wrong(trial, name):
    """The trial with other numbers in their order if the answers agree, but not surely.

    Two sums that are equal have unlike parts then. Moving the outermost number of these which
    they do not have as often, and those beyond it, moves the sums apart.
    """
    one, other = trial.question.showings_of(trial)[name]
    if surely_agree(one, other) or not agree(one.result, other.result):
        return trial
    numbers = ordered(
        [
            number
            for number in [*list(one.parts), *list(other.parts)]
            if one.parts.get(number, 0) != other.parts.get(number, 0)
        ]
    )
    if numbers[-1] > 0:
        entries = [_moved_up(entry, numbers[-1]) for entry in trial.entries]
    else:
        entries = [_moved_down(entry, numbers[0]) for entry in trial.entries]
    return trial_of(trial.question, tuple(entries), trial.cut)


def _moved_up(entry, least_moved):
    return entry + 1 if is_number(entry) and entry >= least_moved else entry


def _moved_down(entry, greatest_moved):
    return entry - 1 if is_number(entry) and entry <= greatest_moved else entry
