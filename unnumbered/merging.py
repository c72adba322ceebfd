"""Merging: the registers of two pieces of a series are put together."""

from unnumbered.executing import is_true, perform
from unnumbered.registers import Registers, add_part
from unnumbered.values import is_number


def merged_registers(merge, first, second):
    """The merged registers of two pieces."""
    both = _read_together(first, second)
    for statement in merge.read_lines:
        if statement.test is None or is_true(statement.test, both):
            perform(statement.action, both, None)
    return Registers(
        {name: both.keeps[name] for name in first.keeps},
        {name: both.flags[name] for name in first.flags},
        {name: _added(total, second.sums[name]) for name, total in first.sums.items()},
        {name: many + second.counts[name] for name, many in first.counts.items()},
        {name: both.places[name] for name in first.places},
        {name: _merged_parts(first, second, name) for name in first.sums},
    )


def _read_together(first, second):
    """Registers of the first piece under their names, of the second in capital letters."""
    return Registers(
        _with_capitals(first.keeps, second.keeps),
        _with_capitals(first.flags, second.flags),
        _with_capitals(first.sums, second.sums),
        {},
        _with_capitals(first.places, second.places),
        {},
    )


def _with_capitals(small, capital):
    both = dict(small)
    for name, held in capital.items():
        both[name.upper()] = held
    return both


def _added(one, other):
    if not is_number(one):
        return one
    return one + other if is_number(other) else other


def _merged_parts(first, second, name):
    together = dict(first.parts[name])
    if is_number(first.sums[name]):
        for number, times in list(second.parts[name].items()):
            add_part(together, number, times)
    return together
