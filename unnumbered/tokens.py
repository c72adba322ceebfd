"""The tokens of a line, and how a line of tokens is written."""

LETTERS = "abcdefghijklmnopqrstuvwxyz"
CAPITALS = "ABCDEFGHIJKLMNOPQRSTUVWXYZ"

# Where two of these begin alike, the longer one comes first.
OTHER_TOKENS = ("+=", "-=", "<=", ">=", "==", "!=", "<", ">", "=", "(", ")", ",", "0", "1")


class WrongLine(ValueError):
    """A line, or what stands in its place, is not as it must be."""


def tokens_of(line, letters=LETTERS):
    """The tokens of a line, a list, with these letters; raises WrongLine where none begins."""
    tokens = []
    at = 0
    while at < len(line):
        if line[at] == " ":
            at += 1
        else:
            token = _token_at(line, at, letters)
            tokens.append(token)
            at += len(token)
    return tokens


def _token_at(line, at, letters):
    end = at
    while end < len(line) and line[end] in letters:
        end += 1
    if end > at:
        return line[at:end]
    for token in OTHER_TOKENS:
        if line.startswith(token, at):
            return token
    raise WrongLine("a character that begins no token")


def written(tokens):
    """The line with these tokens, a list, as written."""
    pieces = []
    for at, token in enumerate(tokens):
        if at > 0 and _are_apart(tokens[at - 1], token):
            pieces.append(" ")
        pieces.append(token)
    return "".join(pieces)


def _are_apart(one, other):
    if one == "(" or other in (")", ","):
        return False
    return other != "(" or one not in ("min", "max")
