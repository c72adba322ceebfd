"""Rules of rewriting: which are safe, where they match in programs, and what they make of these."""

from unnumbered.errors import BadRule, NoMatch
from unnumbered.executing import is_true, value_of
from unnumbered.grammar import Reader
from unnumbered.matching import Search, letters_of
from unnumbered.patterns import next_unnumbered, ordered
from unnumbered.registers import Registers
from unnumbered.rewriting import program_with
from unnumbered.tokens import WrongLine, tokens_of, written
from unnumbered.trees import is_term, tree_tokens
from unnumbered.values import agree

LETTERS = ("a", "b", "c")

# How far the first number of each sign is from 0, so that two more find room between them.
APART = 4


def is_safe(rule, *, unnumbered=True):
    """Whether a rule is safe, or, if unnumbered is False, safe for numbers."""
    return parting(rule, unnumbered=unnumbered) is None


def parting(rule, *, unnumbered=True):
    """Values for a, b and c for which the sides do not agree, a tuple, or None."""
    for values in _values_for(letters_of(rule.left), unnumbered):
        registers = Registers(dict(zip(LETTERS, values)), {}, {}, {}, {}, {})
        if not _do_sides_agree(rule, registers):
            return values
    return None


def book(rules, *, unnumbered=True):
    """Those of some rules that are safe, or safe for numbers, a list."""
    return [rule for rule in rules if is_safe(rule, unnumbered=unnumbered)]


def matches(program, rule):
    """How many matches a rule has in a program."""
    search = Search(rule, None)
    for statement in program.read_statements:
        search.go_through(statement)
    return search.found


def rewritten(program, rule, number):
    """The program with the match with this number rewritten."""
    search = Search(rule, number)
    statements = [search.go_through(statement) for statement in program.read_statements]
    if number < 0 or number >= search.found:
        raise NoMatch(number)
    return program_with(program, program.steps, statements)


def _values_for(letters, has_unnumbered):
    """Tuples of values for a, b and c, a list; a letter that does not occur has 0.

    There is one for each way in which values for the others can lie to each other and to 0, as
    terms and tests see nothing else of them.
    """
    found = [()]
    for letter in LETTERS:
        if letter in letters:
            found = [(*values, one) for values in found for one in _next_values(values, has_unnumbered)]
        else:
            found = [(*values, 0) for values in found]
    return found


def _next_values(values, has_unnumbered):
    """One value for each way in which a further one can lie to some values and to 0."""
    numbers = ordered(values)
    found = [numbers[0] - APART, *numbers, numbers[-1] + APART]
    found.extend([(numbers[at - 1] + numbers[at]) // 2 for at in range(1, len(numbers))])
    if has_unnumbered:
        found.extend([None, *next_unnumbered(values)])
    return found


def _do_sides_agree(rule, registers):
    if rule.is_test:
        return is_true(rule.left, registers) == is_true(rule.right, registers)
    return agree(value_of(rule.left, registers), value_of(rule.right, registers))


class Rule:
    """A rule of rewriting.

    left and right are the trees of its sides, lines is a tuple of both as written.
    """

    def __init__(self, text):
        if not isinstance(text, str) or text.count("->") != 1:
            raise BadRule(-1)
        texts = text.split("->")
        self.left = _side(texts[0], 0)
        self.right = _side(texts[1], 1)
        self.is_test = not is_term(self.left)
        if is_term(self.right) == self.is_test:
            raise BadRule(2)
        known = letters_of(self.left)
        if not all([letter in known for letter in letters_of(self.right)]):
            raise BadRule(3)
        self.lines = (written(tree_tokens(self.left)), written(tree_tokens(self.right)))

    def __str__(self):
        return f"{self.lines[0]} -> {self.lines[1]}"

    def __eq__(self, other):
        return isinstance(other, Rule) and self.lines == other.lines


def _side(text, at):
    """The tree of a side; raises BadRule with its index if it is neither a term nor a test."""
    try:
        tokens = tokens_of(text)
        return _term_or_test(tokens)
    except WrongLine:
        raise BadRule(at) from None


def _term_or_test(tokens):
    try:
        return _whole_term(tokens)
    except WrongLine:
        return _whole_test(tokens)


def _whole_term(tokens):
    reader = _reader(tokens)
    term = reader.read_term()
    reader.expect_end()
    return term


def _whole_test(tokens):
    reader = _reader(tokens)
    test = reader.read_test()
    reader.expect_end()
    return test


def _reader(tokens):
    return Reader(tokens, {letter: "keep" for letter in LETTERS}, False)
