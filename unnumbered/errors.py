"""The errors of the package, each with one field: what it was made with."""


class UnnumberedError(ValueError):
    """An argument that is not as it must be, or more of something than there may be."""


class BadSeries(UnnumberedError):
    """No series; at is the index of the first wrong entry or word, or -1."""

    def __init__(self, at):
        self.at = at


class BadProgram(UnnumberedError):
    """No program; line is the index of the first wrong line, or -1."""

    def __init__(self, line):
        self.line = line


class BadMerge(UnnumberedError):
    """No merge; line is the index of the first wrong line, or -1."""

    def __init__(self, line):
        self.line = line


class BadRule(UnnumberedError):
    """No rule of rewriting; side tells which side is wrong, or how."""

    def __init__(self, side):
        self.side = side


class BadWish(UnnumberedError):
    """A name that is no answer, or whose wish is none."""

    def __init__(self, name):
        self.name = name


class BadEntry(UnnumberedError):
    """An entry that is neither a number nor an unnumbered value."""

    def __init__(self, entry):
        self.entry = entry


class BadWay(UnnumberedError):
    """No way of grouping or joining."""

    def __init__(self, way):
        self.way = way


class Unlike(UnnumberedError):
    """Two programs cannot be compared, because of the answer with this name."""

    def __init__(self, name):
        self.name = name


class NoMend(UnnumberedError):
    """No mend of the program, or one that was chosen before."""

    def __init__(self, mend):
        self.mend = mend


class NoMatch(UnnumberedError):
    """A rule has no match with this number."""

    def __init__(self, number):
        self.number = number


class TooMany(UnnumberedError):
    """There are more of what is named than there may be."""

    def __init__(self, what):
        self.what = what


class NoKey(LookupError):
    """A place or a key that is not there."""

    def __init__(self, key):
        self.key = key


class NoAnswer(LookupError):
    """A program has no answer with this name."""

    def __init__(self, name):
        self.name = name
