"""Judging: whether the answers of a program are as wished, for all series."""

from unnumbered.courses import first_course
from unnumbered.errors import BadWish
from unnumbered.executing import shown_by, surely_agree
from unnumbered.patterns import pattern_of
from unnumbered.series import Series
from unnumbered.trials import are_rows, explored, is_closed, is_headed, trial_of
from unnumbered.values import Told, Unnumbered, agree, is_number

MOST_SITUATIONS = 150


def wishes(**named):
    """The wishes with these names, a dict."""
    for name in sorted([str(name) for name in named]):
        if not _is_wish(named[name]):
            raise BadWish(name)
    return dict(named)


def is_wished(program, wanted, series):
    """Whether each wished answer is as wished for a series, a dict."""
    question = _question_of(program, wanted)
    return question.as_wished(trial_of(question, series.entries, None))


def same_situation(program, wanted, one, other):
    """Whether two series are in the same situation."""
    question = _question_of(program, wanted)
    situation = question.situation_of(trial_of(question, one.entries, None))
    return situation == question.situation_of(trial_of(question, other.entries, None))


def judge(program, wanted):
    """The Verdict on a program and wishes."""
    name, trials = explored(_question_of(program, wanted), MOST_SITUATIONS)
    rows = tuple([Series(trial.entries) for trial in trials])
    if name is None:
        return Verdict(("as wished", rows))
    return Verdict(("broken", name, rows[0]))


def is_judgement(program, wanted, thing):
    """Whether any value is a certificate for a program and wishes."""
    question = _question_of(program, wanted)
    if is_headed(thing, "as wished", 2):
        rows = thing[1]
        return are_rows(rows) and is_closed([trial_of(question, row.entries, None) for row in rows])
    return is_headed(thing, "broken", 3) and _is_broken(question, thing[1], thing[2])


def _is_broken(question, name, series):
    if not isinstance(name, str) or name not in question.wanted or not isinstance(series, Series):
        return False
    return not question.as_wished(trial_of(question, series.entries, None))[name]


def _question_of(program, wanted):
    check_wishes(program, wanted)
    return Judgement(program, wanted)


def check_wishes(program, wanted):
    """Raises BadWish if wishes are none for a program."""
    for name in sorted([str(name) for name in wanted]):
        if name not in program.answers or not _is_wish(wanted[name]):
            raise BadWish(name)


def _is_wish(thing):
    return thing in (Wish.SKIP, Wish.SPOIL, Wish.TELL, Wish.FIRST, Wish.LAST)


class Wish:
    """The wishes that an answer may have."""

    SKIP = "skip"
    SPOIL = "spoil"
    TELL = "tell"
    FIRST = "first"
    LAST = "last"


class Verdict:
    """What was found for all series, with the certificate that shows it."""

    def __init__(self, certificate):
        self.certificate = certificate

    def __bool__(self):
        return self.certificate[0] in ("as wished", "alike", "fits")

    def __len__(self):
        if self.certificate[0] in ("as wished", "alike", "fits"):
            return 0
        return len(self.certificate[2])


class Judgement:
    """The question whether each wished answer of a program is as wished."""

    def __init__(self, program, wanted):
        self.program = program
        self.wanted = dict(wanted)
        self.has_unnumbered = True
        self.has_cuts = False

    def first_courses(self):
        """The run and the plain run."""
        return [first_course(self.program, 0), first_course(self.program, 0)]

    def feed(self, courses, entry):
        """Feeds the next entry, to the plain run if it is a number."""
        courses[0].advance(entry)
        if is_number(entry):
            courses[1].advance(entry)
        else:
            courses[1].pass_over()

    def situation_of(self, trial):
        """The situation of a series."""
        marks = _marks(trial.entries)
        places = []
        if any([wish in (Wish.FIRST, Wish.LAST) for wish in list(self.wanted.values())]):
            places = [marks[0], marks[-1]] if len(marks) > 0 else [None, None]
        return (len(marks) > 0, pattern_of(trial.courses, places))

    def showings_of(self, trial):
        """What each wished answer shows in the run and in the plain run."""
        one, other = [course.registers for course in trial.courses]
        return {
            answer.name: (shown_by(answer, one), shown_by(answer, other))
            for answer in self.program.read_answers
            if answer.name in self.wanted
        }

    def as_wished(self, trial):
        """A dict from each wished name to whether the answer is as wished."""
        marks = _marks(trial.entries)
        return {
            name: _is_as_wished(self.wanted[name], one.result, other.result, marks)
            for name, (one, other) in self.showings_of(trial).items()
        }

    def wrong_answer(self, trial):
        """The name of the first answer that is not surely as wished, or None."""
        right = self.as_wished(trial)
        for name, (one, other) in self.showings_of(trial).items():
            if not right[name] or self.wanted[name] == Wish.SKIP and not surely_agree(one, other):
                return name
        return None


def _marks(entries):
    return [place for place, entry in enumerate(entries) if not is_number(entry)]


def _is_as_wished(wish, result, plain_result, marks):
    if wish == Wish.SKIP:
        return not isinstance(result, Told) and agree(result, plain_result)
    if wish == Wish.SPOIL:
        return len(marks) == 0 or _is_spoilt(result)
    if wish == Wish.TELL:
        return isinstance(result, Told) == (len(marks) > 0)
    if len(marks) == 0:
        return not isinstance(result, Told)
    return result == Told(marks[0] if wish == Wish.FIRST else marks[-1])


def _is_spoilt(result):
    shown = result[0] if isinstance(result, tuple) else result
    return isinstance(shown, Unnumbered)
