"""Patterns: what of some runs decides how they go on, and the entries to go on with."""

from unnumbered.tokens import LETTERS
from unnumbered.values import Unnumbered, is_number


def pattern_of(courses, further_places):
    """The pattern of some runs, and of further places, as a tuple that can be a key."""
    held = _all_held(courses)
    totals = _all_sums(courses)
    ranks = _ranks(held)
    names = _names([*held, *totals])
    places = [
        place for course in courses for place in list(course.registers.places.values())
    ]
    return (
        tuple([course.is_left for course in courses]),
        tuple([flag for course in courses for flag in list(course.registers.flags.values())]),
        tuple([ranks[value] if is_number(value) else _mark(value, names) for value in held]),
        tuple([0 if is_number(value) else _mark(value, names) for value in totals]),
        _first_equals([*places, *further_places]),
    )


def are_roomy(courses):
    """Whether each two different numbers among the held values and 0 differ by 2 or more."""
    numbers = ordered(_all_held(courses))
    return all([numbers[at] - numbers[at - 1] >= 2 for at in range(1, len(numbers))])


def next_entries(courses, has_unnumbered):
    """The next entries of roomy runs, the numbers alone if there are no unnumbered ones."""
    held = _all_held(courses)
    numbers = ordered(held)
    entries = [numbers[0] - 1]
    for number in numbers:
        entries.extend([number, number + 1])
    if has_unnumbered:
        entries.extend(next_unnumbered([*held, *_all_sums(courses)]))
    return entries


def next_unnumbered(values):
    """An unnumbered value with each name that is among values, and one with any other name."""
    names = _names(values)
    return [Unnumbered(name) for name in [*list(names), _other_name(names)]]


def ordered(things):
    """The different numbers among things and 0, ascending, a list."""
    numbers = []
    for number in sorted([int(thing) for thing in [0, *things] if is_number(thing)]):
        if len(numbers) == 0 or numbers[-1] != number:
            numbers.append(number)
    return numbers


def _all_held(courses):
    return [value for course in courses for value in course.held_values()]


def _all_sums(courses):
    return [total for course in courses for total in list(course.registers.sums.values())]


def _ranks(things):
    """A dict from each number among things and 0 to how many of these are between it and 0."""
    numbers = ordered(things)
    at_zero = numbers.index(0)
    return {number: at - at_zero for at, number in enumerate(numbers)}


def _names(values):
    """A dict from the names of unnumbered values to numbers, in the order of the values."""
    names = {}
    for value in values:
        if isinstance(value, Unnumbered) and value.name not in names:
            names[value.name] = len(names)
    return names


def _mark(value, names):
    """What stands in a pattern for a value that is no number."""
    return None if value is None else f"?{names[value.name]}"


def _other_name(names):
    """A name that is not among these."""
    words = [first + last for first in ["", *LETTERS] for last in LETTERS]
    return [word for word in words if word not in names][0]


def _first_equals(places):
    """For each place the index of the first one that is equal, or nothing."""
    return tuple([None if place is None else places.index(place) for place in places])
