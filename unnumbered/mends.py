"""Mends: small changes of programs, and the least sets of them after which answers are as wished."""

from unnumbered.comparing import compare
from unnumbered.errors import NoMend, TooMany
from unnumbered.judging import check_wishes, judge
from unnumbered.programs import LIMITS
from unnumbered.rewriting import program_with
from unnumbered.statements import Statement

MOST_MENDS = 4

# The steps that a mend puts ahead of the others, in the order in which they then stand.
STEPS_AHEAD = ("drop", "fill", "hold")

OPPOSITES = {"<": ">=", ">=": "<", "<=": ">", ">": "<=", "==": "!=", "!=": "=="}

IS_NUMBER = ("compare", "==", ("x",), ("x",))


def mends(program):
    """All the mends of a program, a list."""
    found = []
    if len(program.steps) < LIMITS["steps"]:
        found.extend([(step,) for step in STEPS_AHEAD])
    for at, statement in enumerate(program.read_statements):
        found.append(("guard", at))
        if _can_be_exchanged(statement):
            found.append(("exchange", at))
        if _can_be_turned(statement):
            found.append(("turn", at))
    return found


def mended(program, chosen):
    """The program with the chosen mends."""
    known = mends(program)
    taken = []
    for mend in chosen:
        if not _is_mend(mend, known) or mend in taken:
            raise NoMend(mend)
        taken.append(mend)
    steps = [step for step in STEPS_AHEAD if (step,) in taken]
    statements = [
        _mended_statement(statement, at, taken) for at, statement in enumerate(program.read_statements)
    ]
    return program_with(program, [*steps, *program.steps], statements)


def least_mends(program, wanted, pool):
    """The Mending of a program with the mends of a pool."""
    check_wishes(program, wanted)
    # The program with the whole pool need not be judged, but there must be one.
    mended(program, pool)
    if len(pool) > MOST_MENDS:
        raise TooMany("mends")
    least = []
    sets = []
    broken = []
    for indexes in _choices(len(pool)):
        if not any([_is_part(less, indexes) for less in least]):
            chosen = tuple([pool[at] for at in indexes])
            certificate = judge(mended(program, list(chosen)), wanted).certificate
            if certificate[0] == "broken":
                broken.append((chosen, certificate[1], certificate[2]))
            else:
                least.append(indexes)
                sets.append(chosen)
    return Mending(sets, broken)


def harmless(program, *, unnumbered=True):
    """The harmless ones among the exchanges and turns of a program, a list."""
    return [
        mend
        for mend in mends(program)
        if mend[0] in ("exchange", "turn")
        and bool(compare(program, mended(program, [mend]), unnumbered=unnumbered))
    ]


def _is_mend(thing, known):
    """Whether any value is one of the known mends."""
    if not isinstance(thing, tuple) or thing not in known:
        return False
    # Python takes True for 1, but it is no index.
    return not any([isinstance(part, bool) for part in thing])


def _can_be_exchanged(statement):
    return statement.action[0] == "keep" and statement.action[2][0] in ("min", "max")


def _can_be_turned(statement):
    test = statement.test
    if test is None:
        return False
    return test[0] == "compare" or test[0] == "not" and test[1][0] == "compare"


def _mended_statement(statement, at, taken):
    action = statement.action
    test = statement.test
    if ("exchange", at) in taken:
        action = _exchanged(action)
    if ("turn", at) in taken:
        test = _turned(test)
    if ("guard", at) in taken:
        test = _guarded(test)
    return Statement(action, test)


def _exchanged(action):
    kind, name, (word, one, other) = action
    return (kind, name, (word, other, one))


def _turned(test):
    if test[0] == "not":
        return _opposite(test[1])
    return ("not", _opposite(test))


def _opposite(comparison):
    kind, sign, one, other = comparison
    return (kind, OPPOSITES[sign], one, other)


def _guarded(test):
    return IS_NUMBER if test is None else ("and", (IS_NUMBER, ("brackets", test)))


def _choices(many):
    """All ascending tuples of numbers below many: shorter ones first, then lesser ones."""
    found = []
    longest = [()]
    while len(longest) > 0:
        found.extend(longest)
        longest = [
            (*indexes, further)
            for indexes in longest
            for further in range(many)
            if len(indexes) == 0 or indexes[-1] < further
        ]
    return found


def _is_part(less, indexes):
    return all([at in indexes for at in less])


class Mending:
    """What was found of the sets of mends from a pool.

    sets has the least ones that mend; broken has, for each set that does not mend and of which
    no part does, this set, the name of an answer, and a shortest series at which it is not as
    wished.
    """

    def __init__(self, sets, broken):
        self.sets = tuple(sets)
        self.broken = tuple(broken)
