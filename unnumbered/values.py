"""Values: numbers, unnumbered values and nothing (None), and the results of answers."""


def is_number(thing):
    """Whether any value is an integer; True and False are none."""
    return isinstance(thing, int) and not isinstance(thing, bool)


def is_entry(thing):
    """Whether any value is a number or an unnumbered value."""
    return is_number(thing) or isinstance(thing, Unnumbered)


def is_word(text):
    """Whether a text is a word, of one to eight letters a to z."""
    return 1 <= len(text) <= 8 and text.isascii() and text.isalpha() and text.islower()


def same(one, other):
    """Whether two values are equal numbers, have the same name, or are both nothing."""
    if is_number(one):
        return is_number(other) and one == other
    if isinstance(one, Unnumbered):
        return isinstance(other, Unnumbered) and one.name == other.name
    return one is None and other is None


def least(one, other):
    """What min does with two values."""
    return other if holds("<", other, one) else one


def greatest(one, other):
    """What max does with two values."""
    return other if holds(">", other, one) else one


def holds(sign, one, other):
    """Whether a comparison of two values with one of the six signs holds."""
    if one is None or other is None:
        # Python compares None with itself, but nothing compares with nothing.
        return sign == "!="
    if sign == "<":
        return one < other
    if sign == "<=":
        return one <= other
    if sign == ">":
        return one > other
    if sign == ">=":
        return one >= other
    if sign == "==":
        return one == other
    return one != other


def agree(one, other):
    """Whether two results of answers agree."""
    if isinstance(one, bool):
        return isinstance(other, bool) and one == other
    if isinstance(one, tuple):
        return isinstance(other, tuple) and _pairs_agree(one, other)
    if isinstance(one, Told):
        return one == other
    return same(one, other)


def _pairs_agree(one, other):
    if len(one) != 2 or len(other) != 2:
        return False
    return agree(one[0], other[0]) and agree(one[1], other[1])


def _is_value(thing):
    return thing is None or is_entry(thing)


class Unnumbered:
    """A value that compares with nothing, not even with itself, and spoils every sum."""

    def __init__(self, name):
        self.name = name

    def __eq__(self, other):
        return False

    def __ne__(self, other):
        return True

    def __lt__(self, other):
        if not _is_value(other):
            return NotImplemented
        return False

    def __le__(self, other):
        if not _is_value(other):
            return NotImplemented
        return False

    def __gt__(self, other):
        if not _is_value(other):
            return NotImplemented
        return False

    def __ge__(self, other):
        if not _is_value(other):
            return NotImplemented
        return False

    def __add__(self, other):
        if not is_entry(other):
            return NotImplemented
        return Unnumbered(self.name)

    def __radd__(self, other):
        if not is_entry(other):
            return NotImplemented
        return Unnumbered(self.name)

    def __sub__(self, other):
        if not is_entry(other):
            return NotImplemented
        return Unnumbered(self.name)

    def __rsub__(self, other):
        if not is_entry(other):
            return NotImplemented
        return Unnumbered(self.name)

    def __mul__(self, other):
        if not is_entry(other):
            return NotImplemented
        return Unnumbered(self.name)

    def __rmul__(self, other):
        if not is_entry(other):
            return NotImplemented
        return Unnumbered(self.name)

    def __floordiv__(self, other):
        if not is_entry(other):
            return NotImplemented
        return Unnumbered(self.name)

    def __rfloordiv__(self, other):
        if not is_entry(other):
            return NotImplemented
        return Unnumbered(self.name)

    def __mod__(self, other):
        if not is_entry(other):
            return NotImplemented
        return Unnumbered(self.name)

    def __rmod__(self, other):
        if not is_entry(other):
            return NotImplemented
        return Unnumbered(self.name)

    def __neg__(self):
        return Unnumbered(self.name)

    def __pos__(self):
        return Unnumbered(self.name)

    def __abs__(self):
        return Unnumbered(self.name)

    def __bool__(self):
        return True

    def __str__(self):
        return f"?{self.name}"

    def __repr__(self):
        return f"Unnumbered({self.name!r})"


class Told:
    """The result of an answer that tells of unnumbered values, with a place or None."""

    def __init__(self, place):
        self.place = place

    def __eq__(self, other):
        return isinstance(other, Told) and self.place == other.place

    def __repr__(self):
        return f"Told({self.place!r})"
