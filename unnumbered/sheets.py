"""Sheets: results, outcomes, series and groups as lines of text in columns."""

from unnumbered.values import Told, is_number

FIRST_WIDTH = 8
WIDTH = 20


def shown(result):
    """The text for a result."""
    if isinstance(result, bool):
        return "yes" if result else "no"
    if isinstance(result, tuple):
        return f"{shown(result[0])} by {shown(result[1])}"
    if isinstance(result, Told):
        return "told" if result.place is None else f"told at {result.place:,}"
    if is_number(result):
        return f"{result:+,}"
    return "-" if result is None else str(result)


def sheet(outcome):
    """The lines for the answers of an Outcome, a list."""
    return [_line(name, [result]) for name, result in outcome.answers.items()]


def series_sheet(series):
    """The lines for the entries of a series, a list."""
    return [_line(str(place), [entry]) for place, entry in enumerate(series)]


def group_sheet(rows):
    """The lines for groups and their Outcomes, a list."""
    return [_line(shown(key), list(outcome.answers.values())) for key, outcome in rows]


def _line(first, results):
    columns = [shown(result).rjust(WIDTH) for result in results]
    return "".join([first.ljust(FIRST_WIDTH), *columns])
