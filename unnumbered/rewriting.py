"""Rewriting: programs are written again with other steps and other statements."""

from unnumbered.drafts import KINDS
from unnumbered.programs import Program
from unnumbered.tokens import written
from unnumbered.trees import tree_tokens


def program_with(program, steps, statements):
    """The program with these steps and Statement objects in the place of its own."""
    lines = [line for line in program.lines if _first_word(line) in KINDS]
    if len(steps) > 0:
        lines.append("steps " + ", ".join(steps))
    lines.extend([statement_line(statement) for statement in statements])
    lines.extend([line for line in program.lines if _first_word(line) == "answer"])
    return Program("\n".join(lines))


def statement_line(statement):
    """The line of a Statement, as written."""
    tokens = _action_tokens(statement.action)
    if statement.test is not None:
        tokens.extend(["if", *tree_tokens(statement.test)])
    return written(tokens)


def _action_tokens(action):
    kind = action[0]
    if kind in ("skip", "leave"):
        return [kind]
    name = action[1]
    if kind == "set":
        return ["set", name]
    if kind == "count":
        return [name, "+=", "1"]
    if kind == "here":
        return [name, "=", "here"]
    if kind == "place":
        return [name, "=", action[2]]
    signs = {"keep": "=", "add": "+=", "subtract": "-="}
    return [name, signs[kind], *tree_tokens(action[2])]


def _first_word(line):
    return line.split(" ")[0]
