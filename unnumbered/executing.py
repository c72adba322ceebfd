"""What terms, tests, actions and answers do with registers."""

from unnumbered.registers import add_part
from unnumbered.values import Told, agree, greatest, holds, is_number, least, same


def value_of(term, registers):
    """The value of a term."""
    word = term[0]
    if word == "x":
        return registers.x
    if word == "keep":
        return registers.keeps[term[1]]
    if word == "before":
        return registers.before
    if word == "0":
        return 0
    if word == "nothing":
        return None
    one = value_of(term[1], registers)
    other = value_of(term[2], registers)
    return least(one, other) if word == "min" else greatest(one, other)


def is_true(test, registers):
    """Whether a test holds."""
    word = test[0]
    if word == "or":
        return any([is_true(part, registers) for part in test[1]])
    if word == "and":
        return all([is_true(part, registers) for part in test[1]])
    if word == "not":
        return not is_true(test[1], registers)
    if word == "brackets":
        return is_true(test[1], registers)
    if word == "flag":
        return registers.flags[test[1]]
    if word == "sum":
        return is_number(registers.sums[test[2]]) == (test[1] == "==")
    return _is_true_of_terms(test, registers)


def _is_true_of_terms(test, registers):
    if test[0] == "compare":
        return holds(test[1], value_of(test[2], registers), value_of(test[3], registers))
    value = value_of(test[1], registers)
    if test[0] == "is nothing":
        return value is None
    return any([same(value, value_of(term, registers)) for term in test[2]])


def perform(action, registers, place):
    """Changes the registers as an action says, any but skip and leave; place is what here is."""
    kind = action[0]
    name = action[1]
    if kind == "keep":
        registers.keeps[name] = value_of(action[2], registers)
    elif kind == "here":
        registers.places[name] = place
    elif kind == "place":
        registers.places[name] = registers.places[action[2]]
    elif kind == "set":
        registers.flags[name] = True
    elif kind == "count":
        registers.counts[name] += 1
    else:
        _add(name, value_of(action[2], registers), 1 if kind == "add" else -1, registers)


def _add(name, value, times, registers):
    total = registers.sums[name]
    if not is_number(total):
        return
    if is_number(value):
        registers.sums[name] = total + times * value
        add_part(registers.parts[name], value, times)
    else:
        registers.sums[name] = value


class Shown:
    """What an answer shows: its result, and the parts of the sum in it.

    parts is None if it shows no sum, or one that is not a number.
    """

    def __init__(self, result, parts):
        self.result = result
        self.parts = parts


def shown_by(answer, registers):
    """What an answer shows of registers."""
    if answer.flag is not None and registers.flags[answer.flag]:
        return Shown(Told(None if answer.place is None else registers.places[answer.place]), None)
    kind = answer.result[0]
    name = answer.result[1]
    if kind == "value":
        return Shown(value_of(name, registers), None)
    if kind == "truth":
        return Shown(registers.flags[name], None)
    if kind == "count":
        return Shown(registers.counts[name], None)
    if kind == "place":
        return Shown(registers.places[name], None)
    total = registers.sums[name]
    parts = registers.parts[name] if is_number(total) else None
    if kind == "sum":
        return Shown(total, parts)
    return Shown((total, registers.counts[answer.result[2]]), parts)


def surely_agree(one, other):
    """Whether what two answers show surely agrees."""
    return agree(one.result, other.result) and one.parts == other.parts
