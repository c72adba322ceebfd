"""Keyed: tables and groups with keys that are numbers or unnumbered values."""

from unnumbered.errors import BadSeries, BadWay, NoKey
from unnumbered.running import Machine
from unnumbered.values import Unnumbered, holds, is_number, same

WAYS_TO_GROUP = ("object", "one", "each", "leave")
WAYS_TO_JOIN = ("object", "equal", "one")


def grouped(keys, way):
    """The groups of a series of keys, a list of tuples of a key and a list of places."""
    if way not in WAYS_TO_GROUP:
        raise BadWay(way)
    groups = []
    for place, key in enumerate(keys):
        if is_number(key) or way == "object":
            _add_place(groups, key, place)
        elif way == "one":
            _add_place(groups, None, place)
        elif way == "each":
            groups.append((key, [place]))
    return groups


def _add_place(groups, key, place):
    """Adds a place to the group with the same key, which is put behind the others if it is new."""
    for known, places in groups:
        if same(known, key):
            places.append(place)
            return
    groups.append((key, [place]))


def joined(left, right, way):
    """The tuples of places of two series that belong together, a list."""
    if way not in WAYS_TO_JOIN:
        raise BadWay(way)
    return [
        (i, j) for i, one in enumerate(left) for j, other in enumerate(right) if _belong(one, other, way)
    ]


def _belong(one, other, way):
    if way == "object":
        return same(one, other)
    if way == "one" and isinstance(one, Unnumbered):
        return isinstance(other, Unnumbered)
    return holds("==", one, other)


def run_grouped(program, keys, series, way):
    """The tuples of the key of a group and the Outcome of the run over it, a list."""
    groups = grouped(keys, way)
    if len(keys) != len(series):
        raise BadSeries(-1)
    return [(key, _outcome_at(program, series, places)) for key, places in groups]


def _outcome_at(program, series, places):
    """The Outcome of the run over the entries at ascending places, which these keep."""
    machine = Machine(program)
    for place in places:
        while machine.fed < place:
            machine.miss()
        machine(series[place])
    return machine.outcome()


class Keyed:
    """A table with an integer, the worth, for each of its keys."""

    def __init__(self):
        # Lists, as a list finds an unnumbered value only where it is the same object.
        self._held = []
        self._worths = []

    def worths(self):
        """The worths in the order of the keys, a list."""
        return list(self._worths)

    def total(self):
        """The sum of all worths."""
        return sum(self._worths)

    def __getitem__(self, at):
        if at not in self._held:
            raise NoKey(at)
        return self._worths[self._held.index(at)]

    def __setitem__(self, at, worth):
        if at in self._held:
            self._worths[self._held.index(at)] = worth
        else:
            self._held.append(at)
            self._worths.append(worth)

    def __contains__(self, x):
        return x in self._held

    def __len__(self):
        return len(self._held)

    def __iter__(self):
        return iter(self._held)
