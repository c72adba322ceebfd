"""Trees of terms and tests, as unnumbered.grammar reads them: their parts, and their tokens."""


def is_term(tree):
    """Whether a tree is a term, and not a test."""
    return tree[0] in ("x", "before", "0", "nothing", "keep", "min", "max")


def parts_of(tree):
    """The terms and tests that stand directly in a tree, from left to right, a list."""
    word = tree[0]
    if word in ("min", "max"):
        return [tree[1], tree[2]]
    if word in ("or", "and"):
        return list(tree[1])
    if word in ("not", "brackets", "is nothing"):
        return [tree[1]]
    if word == "compare":
        return [tree[2], tree[3]]
    if word == "in":
        return [tree[1], *tree[2]]
    return []


def with_parts(tree, parts):
    """The tree with other parts, as many as it has."""
    word = tree[0]
    if word in ("min", "max"):
        return (word, parts[0], parts[1])
    if word in ("or", "and"):
        return (word, tuple(parts))
    if word in ("not", "brackets", "is nothing"):
        return (word, parts[0])
    if word == "compare":
        return (word, tree[1], parts[0], parts[1])
    if word == "in":
        return (word, parts[0], tuple(parts[1:]))
    return tree


def without_brackets(tree):
    """A term, or a test without the brackets directly around it."""
    bare = tree
    while bare[0] == "brackets":
        bare = bare[1]
    return bare


def tree_tokens(tree):
    """The tokens that a term or a test is written with, a list."""
    word = tree[0]
    parts = [tree_tokens(part) for part in parts_of(tree)]
    if word in ("min", "max"):
        return [word, "(", *_joined(parts, ","), ")"]
    if word in ("or", "and"):
        return _joined(parts, word)
    if word == "not":
        return ["not", *parts[0]]
    if word == "brackets":
        return ["(", *parts[0], ")"]
    if word == "is nothing":
        return [*parts[0], "is", "nothing"]
    if word == "compare":
        return [*parts[0], tree[1], *parts[1]]
    if word == "in":
        return [*parts[0], "in", "(", *_joined(parts[1:], ","), ")"]
    if word == "sum":
        return [tree[2], tree[1], tree[2]]
    # A name stands behind its kind, the other words stand alone.
    return [tree[-1]]


def _joined(lists, token):
    """The tokens of one list or more, with a token between each two of these."""
    tokens = list(lists[0])
    for further in lists[1:]:
        tokens.extend([token, *further])
    return tokens
