"""Terms and tests: how they are read from the tokens of a line.

What was read is a tree of tuples. A term is one of
    ("x",)  ("before",)  ("0",)  ("nothing",)  ("keep", name)
    ("min", term, term)  ("max", term, term)
and a test is one of
    ("or", tests)  ("and", tests)      with two tests or more, a tuple
    ("not", test)  ("brackets", test)
    ("compare", sign, term, term)  ("is nothing", term)  ("in", term, terms)
    ("flag", name)
    ("sum", sign, name)                the sum on both sides, with == or !=

Brackets stay in the tree, so that a line can be written again from it.
"""

from unnumbered.tokens import WrongLine

COMPARISONS = ("<", "<=", ">", ">=", "==", "!=")


class Reader:
    """Goes over the tokens of a line; every read raises WrongLine if it does not succeed.

    kinds is a dict from each name that may stand in the line to its kind: keep, flag, sum,
    count or place. is_in_run tells whether x, before and here may stand in it.
    """

    def __init__(self, tokens, kinds, is_in_run):
        self.tokens = list(tokens)
        self.kinds = dict(kinds)
        self.is_in_run = is_in_run
        self.at = 0

    def peek(self):
        """The next token, or the empty text behind the last one."""
        return self.tokens[self.at] if self.at < len(self.tokens) else ""

    def take(self):
        """The next token, which is then read."""
        if self.at == len(self.tokens):
            raise WrongLine("the line is over too soon")
        self.at += 1
        return self.tokens[self.at - 1]

    def skip_if(self, token):
        """Whether the next token is this one; if so, it is then read."""
        if self.peek() != token:
            return False
        self.at += 1
        return True

    def expect(self, token):
        """Reads this token."""
        if not self.skip_if(token):
            raise WrongLine(f"not {token}")

    def expect_end(self):
        """Makes sure that all tokens were read."""
        if self.at < len(self.tokens):
            raise WrongLine("the line goes on too long")

    def kind_of(self, token):
        """The kind of a name, or the empty text if the token is no name."""
        return self.kinds.get(token, "")

    def read_name(self, kind):
        """Reads a name of this kind."""
        token = self.take()
        if self.kind_of(token) != kind:
            raise WrongLine(f"no {kind}")
        return token

    def read_term(self):
        """Reads a term."""
        token = self.take()
        if token in ("min", "max"):
            self.expect("(")
            one = self.read_term()
            self.expect(",")
            other = self.read_term()
            self.expect(")")
            return (token, one, other)
        if token in ("0", "nothing") or self.is_in_run and token in ("x", "before"):
            return (token,)
        if self.kind_of(token) == "keep":
            return ("keep", token)
        raise WrongLine("no term")

    def read_test(self):
        """Reads a test."""
        parts = [self._part()]
        while self.skip_if("or"):
            parts.append(self._part())
        return parts[0] if len(parts) == 1 else ("or", tuple(parts))

    def _part(self):
        atoms = [self._atom()]
        while self.skip_if("and"):
            atoms.append(self._atom())
        return atoms[0] if len(atoms) == 1 else ("and", tuple(atoms))

    def _atom(self):
        if self.skip_if("not"):
            return ("not", self._atom())
        if self.skip_if("("):
            inner = self.read_test()
            self.expect(")")
            return ("brackets", inner)
        kind = self.kind_of(self.peek())
        if kind == "flag":
            return ("flag", self.take())
        if kind == "sum":
            return self._sum_atom()
        return self._term_atom()

    def _sum_atom(self):
        one = self.take()
        sign = self.take()
        if sign not in ("==", "!=") or self.take() != one:
            raise WrongLine("a sum is compared with itself by == and != alone")
        return ("sum", sign, one)

    def _term_atom(self):
        one = self.read_term()
        sign = self.take()
        if sign in COMPARISONS:
            return ("compare", sign, one, self.read_term())
        if sign == "is":
            self.expect("nothing")
            return ("is nothing", one)
        if sign == "in":
            return ("in", one, self._terms_in_brackets())
        raise WrongLine("no comparison")

    def _terms_in_brackets(self):
        self.expect("(")
        terms = [self.read_term()]
        while self.skip_if(","):
            terms.append(self.read_term())
        self.expect(")")
        return tuple(terms)
