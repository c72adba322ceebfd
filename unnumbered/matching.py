"""Matching: where a side of a rule stands in the statements of a program.

The letters of a rule are keeps in the trees of its sides.
"""

from unnumbered.statements import Statement
from unnumbered.trees import is_term, parts_of, with_parts, without_brackets


def letters_of(tree):
    """The letters in a side of a rule, a list, as often as they occur."""
    if tree[0] == "keep":
        return [tree[1]]
    return [letter for part in parts_of(tree) for letter in letters_of(part)]


class Search:
    """Goes through statements and counts the matches of a rule.

    The match with a number, if there is one, is rewritten; found is how many there are so far.
    """

    def __init__(self, rule, number):
        self.rule = rule
        self.number = number
        self.found = 0

    def go_through(self, statement):
        """The statement, rewritten if the match is in it."""
        action = statement.action
        if action[0] in ("keep", "add", "subtract"):
            action = (action[0], action[1], self._go_through_tree(action[2]))
        test = None if statement.test is None else self._go_through_tree(statement.test)
        return Statement(action, test)

    def _go_through_tree(self, tree):
        """The same of a term, or of a test with all the brackets directly around it."""
        terms = self._terms_for(without_brackets(tree))
        if terms is None:
            return self._go_inside(tree)
        self.found += 1
        if self.found - 1 != self.number:
            return self._go_inside(tree)
        fresh = _with_terms(self.rule.right, terms)
        return ("brackets", fresh) if self.rule.is_test else fresh

    def _go_inside(self, tree):
        """The same of the parts of a tree alone, as it was counted itself."""
        if tree[0] == "brackets":
            return ("brackets", self._go_inside(tree[1]))
        return with_parts(tree, [self._go_through_tree(part) for part in parts_of(tree)])

    def _terms_for(self, tree):
        """The terms for the letters with which the left side is this tree, a dict, or None."""
        terms = {}
        if is_term(tree) == self.rule.is_test or not _fits(self.rule.left, tree, terms):
            return None
        return terms


def _fits(side, tree, terms):
    """Whether a tree is a side of a rule; puts the terms for letters into a dict."""
    pattern = without_brackets(side)
    bare = without_brackets(tree)
    if pattern[0] == "keep":
        return terms.setdefault(pattern[1], bare) == bare
    parts = parts_of(pattern)
    others = parts_of(bare)
    if _head(pattern) != _head(bare) or len(parts) != len(others):
        return False
    return all([_fits(part, other, terms) for part, other in zip(parts, others)])


def _head(tree):
    """What a tree is, apart from its parts."""
    if len(parts_of(tree)) == 0:
        return tree
    return tree[:2] if tree[0] == "compare" else tree[:1]


def _with_terms(side, terms):
    if side[0] == "keep":
        return terms[side[1]]
    return with_parts(side, [_with_terms(part, terms) for part in parts_of(side)])
