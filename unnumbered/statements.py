"""Statements and answers: how they are read from the tokens of a line.

The action of a statement is one of
    ("keep", name, term)     KEEP = TERM
    ("here", name)           PLACE = here
    ("place", name, place)   PLACE = PLACE
    ("set", name)            set FLAG
    ("add", name, term)      SUM += TERM
    ("subtract", name, term) SUM -= TERM
    ("count", name)          COUNT += 1
    ("skip",)  ("leave",)
and the result of an answer, after its kind, is one of
    ("value", term)  ("truth", flag)  ("sum", name)  ("count", name)  ("place", name)
    ("mean", sum, count)
Terms and tests are trees as unnumbered.grammar reads them.
"""

from unnumbered.grammar import Reader
from unnumbered.tokens import WrongLine

# The kind of an answer that shows a single name, after the kind of this name.
RESULT_KINDS = {"flag": "truth", "sum": "sum", "count": "count", "place": "place"}


class Statement:
    """An action, and the test under which it is done, or None."""

    def __init__(self, action, test):
        self.action = action
        self.test = test


class Answer:
    """A result under a name; flag and place are the names behind told, or None."""

    def __init__(self, name, flag, place, result):
        self.name = name
        self.flag = flag
        self.place = place
        self.result = result


def read_statement(tokens, kinds):
    """The Statement that a line of these tokens is; raises WrongLine if it is none."""
    return _statement(Reader(tokens, kinds, True))


def read_merge_line(tokens, kinds):
    """The Statement that a line of a merge is; raises WrongLine if it is none.

    The names in kinds that mean registers of the second piece are in capital letters.
    """
    statement = _statement(Reader(tokens, kinds, False))
    if statement.action[0] not in ("keep", "place", "set") or not statement.action[1].islower():
        raise WrongLine("no line of a merge")
    return statement


def _statement(reader):
    action = _action(reader)
    test = reader.read_test() if reader.skip_if("if") else None
    reader.expect_end()
    return Statement(action, test)


def _action(reader):
    token = reader.take()
    if token in ("skip", "leave"):
        return (token,)
    if token == "set":
        return ("set", reader.read_name("flag"))
    kind = reader.kind_of(token)
    if kind == "keep":
        reader.expect("=")
        return ("keep", token, reader.read_term())
    if kind == "place":
        return _place_action(token, reader)
    if kind == "sum":
        return _sum_action(token, reader)
    if kind == "count":
        reader.expect("+=")
        reader.expect("1")
        return ("count", token)
    raise WrongLine("no statement")


def _place_action(name, reader):
    reader.expect("=")
    if reader.is_in_run and reader.skip_if("here"):
        return ("here", name)
    return ("place", name, reader.read_name("place"))


def _sum_action(name, reader):
    if reader.skip_if("+="):
        return ("add", name, reader.read_term())
    reader.expect("-=")
    return ("subtract", name, reader.read_term())


def read_answer(tokens, kinds):
    """The Answer that a line of these tokens is; raises WrongLine if it is none."""
    reader = Reader(tokens, kinds, False)
    reader.expect("answer")
    name = reader.take()
    reader.expect("=")
    flag = None
    place = None
    if reader.skip_if("told"):
        if reader.peek() != "if":
            place = reader.read_name("place")
        reader.expect("if")
        flag = reader.read_name("flag")
        reader.expect("else")
    result = _result(reader)
    reader.expect_end()
    return Answer(name, flag, place, result)


def _result(reader):
    kind = reader.kind_of(reader.peek())
    if kind not in RESULT_KINDS:
        return ("value", reader.read_term())
    name = reader.take()
    if kind == "sum" and reader.skip_if("by"):
        return ("mean", name, reader.read_name("count"))
    return (RESULT_KINDS[kind], name)
