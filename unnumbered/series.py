"""Series: up to 250 entries, each a number or an unnumbered value."""

from unnumbered.errors import BadSeries, NoKey
from unnumbered.values import Unnumbered, is_entry, is_number, is_word, same

MOST_ENTRIES = 250
MOST_DIGITS = 300


class Series:
    """Entries in their order; unnumbered values with one name are one object."""

    def __init__(self, entries):
        if not isinstance(entries, (list, tuple)) or len(entries) > MOST_ENTRIES:
            raise BadSeries(-1)
        for at, entry in enumerate(entries):
            if not is_entry(entry):
                raise BadSeries(at)
        self.entries = _with_one_object_a_name(entries)

    @classmethod
    def of(cls, *entries):
        """The series of these entries."""
        return cls(entries)

    @classmethod
    def read(cls, text):
        """The series that a text is written for."""
        if not isinstance(text, str):
            raise BadSeries(-1)
        words = [] if text == "" else text.split(" ")
        # A wrong word has None as its entry, which no series takes.
        return cls([_entry_of(word) for word in words])

    def numbers(self):
        """The numbers, in their order and as often as they occur."""
        return [entry for entry in self.entries if is_number(entry)]

    def marks(self):
        """The places of the unnumbered entries, ascending."""
        return [place for place, entry in enumerate(self.entries) if not is_number(entry)]

    def __len__(self):
        return len(self.entries)

    def __iter__(self):
        return iter(self.entries)

    def __getitem__(self, at):
        if at < 0 or at >= len(self.entries):
            raise NoKey(at)
        return self.entries[at]

    def __contains__(self, x):
        return any([same(entry, x) for entry in self.entries])

    def __add__(self, other):
        if not isinstance(other, Series):
            return NotImplemented
        return Series(self.entries + other.entries)

    def __eq__(self, other):
        if not isinstance(other, Series) or len(self.entries) != len(other.entries):
            return False
        return all([same(one, two) for one, two in zip(self.entries, other.entries)])

    def __str__(self):
        return " ".join([str(entry) for entry in self.entries])

    def __repr__(self):
        return f"Series('{str(self)}')"


def _with_one_object_a_name(entries):
    firsts = {}
    kept = []
    for entry in entries:
        if is_number(entry):
            kept.append(entry)
        else:
            if entry.name not in firsts:
                firsts[entry.name] = entry
            kept.append(firsts[entry.name])
    return tuple(kept)


def _entry_of(word):
    """The entry that a word is written for, or None if it is a wrong word."""
    if word.startswith("?") and is_word(word[1:]):
        return Unnumbered(word[1:])
    if word == "0" or _is_number_but_0(word):
        return int(word)
    return None


def _is_number_but_0(word):
    digits = word.removeprefix("-")
    if not digits.isascii() or not digits.isdigit():
        return False
    return not digits.startswith("0") and len(digits) <= MOST_DIGITS
