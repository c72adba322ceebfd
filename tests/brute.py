"""What judge, compare and pieces must answer, found in another way: by the words of points 18 to 30.

Facts of a pattern are listed one by one, for each two values, and series are gone through either all (over a few
entries), or situation by situation with numbers that lie far apart.
"""

import itertools

from unnumbered.pieces import merged
from unnumbered.running import Machine, run
from unnumbered.series import Series
from unnumbered.values import Told, Unnumbered

ENTRIES = (-2, -1, 0, 1, 2, Unnumbered("a"), Unnumbered("b"))
FAR = 2 ** 60


def is_number(thing):
    return isinstance(thing, int) and not isinstance(thing, bool)


def key(result):
    """Results agree exactly if their keys are equal."""
    if isinstance(result, bool):
        return ("truth", result)
    if isinstance(result, tuple):
        return ("mean", key(result[0]), key(result[1]))
    if isinstance(result, Told):
        return ("told", result.place)
    return ("unnumbered", result.name) if isinstance(result, Unnumbered) else ("value", result)


def shown_parts(program, name, outcome):
    """The parts of the sum that an answer shows as a number, or None."""
    for line in str(program).split("\n"):
        words = line.split()
        if words[:2] == ["answer", name] and not isinstance(outcome.answers[name], Told):
            total = words[words.index("else") + 1] if "else" in words else words[3]
            if total in outcome.sums and is_number(outcome.sums[total]):
                return outcome.parts[total]
    return None


def facts(outcomes, places):
    """The facts of a pattern (21), as a tuple."""
    found = []
    held = [value for outcome in outcomes for value in outcome.held]
    sums = [value for outcome in outcomes for value in outcome.sums.values()]
    for outcome in outcomes:
        values = [*outcome.held, *outcome.sums.values()]
        kinds = [key(value)[0] if value is not None else "nothing" for value in values]
        found.append((list(outcome.flags.values()), outcome.is_left, kinds))
    for one, other in itertools.combinations([*held, 0], 2):
        if is_number(one) and is_number(other):
            found.append((one < other, one == other))
    for one, other in itertools.combinations([*held, *sums], 2):
        if isinstance(one, Unnumbered) and isinstance(other, Unnumbered):
            found.append(one.name == other.name)
    places = [place for outcome in outcomes for place in outcome.places.values()] + places
    found.append([place is None for place in places])
    for one, other in itertools.combinations(places, 2):
        if one is not None and other is not None:
            found.append(one == other)
    return repr(found)


def other_name(names):
    return next(letter for letter in "zyxwvutsrqponmlkji" if letter not in names)


class Asked:
    """What is asked: for series with a cut or None, outcomes, wrong answers and situations."""

    has_cuts = False
    entries = ENTRIES

    def wrong(self, series, cut, surely=True):
        """The names of the answers that are not, or not surely, as they must be."""
        one, other = self.compared(series, cut)
        return [name for name in self.names if self.differ(name, one, other, surely)]

    def differ(self, name, one, other, surely):
        if key(one.answers[name]) != key(other.answers[name]):
            return True
        parts = shown_parts(self.programs[0], name, one), shown_parts(self.programs[-1], name, other)
        return surely and None not in parts and parts[0] != parts[1]

    def numbers(self, series, cut):
        held = [value for outcome in self.outcomes(series, cut) for value in outcome.held]
        return sorted({0, *(value for value in held if is_number(value))})

    def next_entries(self, series, cut, far):
        """The next entries (23), or, if far, numbers halfway between the held ones."""
        numbers = self.numbers(series, cut)
        if far:
            between = [(one + other) // 2 for one, other in zip(numbers, numbers[1:])]
            entries = [numbers[0] - FAR, *numbers, *between, numbers[-1] + FAR]
        else:
            entries = [numbers[0] - 1, *numbers, *(number + 1 for number in numbers)]
        if all(is_number(entry) for entry in self.entries):
            return entries
        outcomes = self.outcomes(series, cut)
        values = [value for outcome in outcomes for value in [*outcome.held, *outcome.sums.values()]]
        names = sorted({value.name for value in values if isinstance(value, Unnumbered)})
        return entries + [Unnumbered(name) for name in [*names, other_name(names)]]

    def is_roomy(self, series, cut):
        numbers = self.numbers(series, cut)
        return all(other - one >= 2 for one, other in zip(numbers, numbers[1:]))

    def longer(self, series, cut, far):
        return [(series + Series.of(entry), cut) for entry in self.next_entries(series, cut, far)]

    def with_cuts(self, rows):
        """The rows, and for those without a cut, if there are cuts, those that are cut behind their last entry."""
        return rows + [(series, len(series)) for series, cut in rows if self.has_cuts and cut is None]

    def explored(self, most):
        """("wrong", length), ("many",), or ("right", dict from situations to least lengths)."""
        known = {}
        rows = self.with_cuts([(Series(()), None)])
        for length in itertools.count():
            if any(self.wrong(*row) for row in rows):
                return ("wrong", length)
            fresh = {}
            for row in rows:
                situation = self.situation(*row)
                if situation not in known:
                    known[situation] = length
                    fresh[situation] = row
            if len(known) > most:
                return ("many",)
            if not fresh:
                return ("right", known)
            rows = self.with_cuts([further for row in fresh.values() for further in self.longer(*row, True)])

    def wrong_ones(self, length, surely=False):
        """The rows with so many entries, over a few entries, of which an answer is wrong."""
        for entries in itertools.product(self.entries, repeat=length):
            series = Series(entries)
            for cut in range(length + 1) if self.has_cuts else [None]:
                if self.wrong(series, cut, surely):
                    yield series, cut

    def is_closed(self, rows):
        """Whether rows, (series, cut or None), are a closed list (24, 30)."""
        situations = {self.situation(*row) for row in rows}
        if not any(len(series) == 0 and cut is None for series, cut in rows):
            return False
        for series, cut in rows:
            if not self.is_roomy(series, cut) or self.wrong(series, cut) or len(series) == 250:
                return False
            for further in self.longer(series, cut, False) + self.with_cuts([(series, cut)]):
                if self.wrong(*further) or self.situation(*further) not in situations:
                    return False
        return True


class AskedToJudge(Asked):
    def __init__(self, program, wanted):
        self.programs = [program]
        self.names = [name for name in program.answers if name in wanted]
        self.wanted = wanted

    def outcomes(self, series, cut):
        return [run(self.programs[0], series), run(self.programs[0], series, plain=True)]

    def situation(self, series, cut):
        marks = series.marks()
        places = []
        if "first" in self.wanted.values() or "last" in self.wanted.values():
            places = [marks[0], marks[-1]] if marks else [None, None]
        return (len(marks) > 0, facts(self.outcomes(series, cut), places))

    def wrong(self, series, cut, surely=True):
        one, other = self.outcomes(series, cut)
        return [name for name in self.names if not self.is_as_wished(name, one, other, series.marks(), surely)]

    def is_as_wished(self, name, one, other, marks, surely):
        wish, result = self.wanted[name], one.answers[name]
        if wish == "skip":
            return not isinstance(result, Told) and not self.differ(name, one, other, surely)
        if wish == "spoil":
            spoilt = isinstance(result, Unnumbered) or isinstance(result, tuple) and isinstance(result[0], Unnumbered)
            return spoilt or not marks
        if wish == "tell" or not marks:
            return isinstance(result, Told) == bool(marks)
        return key(result) == ("told", marks[0] if wish == "first" else marks[-1])


class AskedToCompare(Asked):
    def __init__(self, one, other, unnumbered):
        self.programs = [one, other]
        self.names = one.answers
        if not unnumbered:
            self.entries = (-3, -2, -1, 0, 1, 2, 3)

    def outcomes(self, series, cut):
        return [run(program, series) for program in self.programs]

    compared = outcomes

    def situation(self, series, cut):
        return facts(self.outcomes(series, cut), [])


class AskedToCut(Asked):
    has_cuts = True

    def __init__(self, program, merge):
        self.programs = [program]
        self.names = program.answers
        self.merge = merge

    def outcomes(self, series, cut):
        if cut is None:
            return [run(self.programs[0], series)]
        second = Machine(self.programs[0])
        for place, entry in enumerate(series):
            second.miss() if place < cut else second(entry)
        return [run(self.programs[0], series), run(self.programs[0], Series(series.entries[:cut])), second.outcome()]

    def compared(self, series, cut):
        one, other = Series(series.entries[:cut]), Series(series.entries[cut:])
        return run(self.programs[0], series), merged(self.programs[0], self.merge, one, other)

    def wrong(self, series, cut, surely=True):
        return [] if cut is None else Asked.wrong(self, series, cut, surely)

    def situation(self, series, cut):
        return (cut is None, facts(self.outcomes(series, cut), []))


def check(test, asked, certificate, lengths, words):
    """Holds a certificate against all series with one of these lengths, and against the situations one by one."""
    found = asked.explored(250 if asked.has_cuts else 150)
    if certificate[0] == words[1]:
        series, cut = (*certificate[2:], None)[:2]
        test.assertEqual(found, ("wrong", len(series)))
        test.assertIn(certificate[1], asked.wrong(series, cut, False))
        test.assertEqual(len(certificate), 4 if asked.has_cuts else 3)
        for length in lengths:
            if length < len(series):
                test.assertEqual(list(asked.wrong_ones(length, True)), [])
    else:
        test.assertEqual((certificate[0], len(certificate)), (words[0], 2))
        rows = [row if asked.has_cuts else (row, None) for row in certificate[1]]
        test.assertEqual([len(row[0]) for row in rows], sorted(len(row[0]) for row in rows))
        test.assertEqual((found[0], {asked.situation(*row): len(row[0]) for row in rows}), ("right", found[1]))
        test.assertEqual(len(rows), len(found[1]))
        test.assertTrue(asked.is_closed(rows))
        for length in lengths:
            test.assertEqual(list(asked.wrong_ones(length)), [])
