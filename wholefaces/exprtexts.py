"""Expressions read from texts and written as lines."""

from wholefaces.checks import demand
from wholefaces.cursors import AXES, Cursor, axis_word, is_numeral
from wholefaces.logictexts import bracketed
from wholefaces.treeparts import MOST_FACTORS, expression_fits
from wholefaces.wordnames import are_word_names


class Part:
    """An EXPR that is being read: behind which word, and what has come of it."""

    def __init__(self, word):
        self.word = word
        self.firsts = ()
        self.terms = ()
        self.sign = 1
        self.factors = ()

    def is_begun(self):
        """Whether a FACT has come."""
        return len(self.terms) > 0 or len(self.factors) > 0

    def begin_minus(self):
        """The minus that begins the EXPR has come."""
        self.sign = -1

    def end_fact(self, fact):
        """A FACT has come."""
        self.factors = self.factors + (fact,)

    def end_term(self):
        """Takes the factors that have come as a TERM."""
        term = self.factors[0] if len(self.factors) == 1 else ("product", self.factors)
        self.terms = self.terms + ((self.sign, term),)
        self.factors = ()

    def next_term(self, sign):
        """Another TERM comes, with this sign."""
        self.end_term()
        self.sign = sign

    def told(self):
        """The tree of the EXPR, its last factor having come."""
        self.end_term()
        if len(self.terms) == 1 and self.terms[0][0] == 1:
            return self.terms[0][1]
        return ("sum", self.terms)

    def next_argument(self):
        """The second EXPR of a min, max comes."""
        self.firsts = (self.told(),)
        self.terms = ()
        self.sign = 1

    def wants_second(self):
        """Whether a comma has to come behind this EXPR."""
        return self.word in ("min", "max") and len(self.firsts) == 0

    def whole(self):
        """The tree of the FACT that ends with this EXPR."""
        if self.word == "(":
            return self.told()
        return (self.word,) + self.firsts + (self.told(),)


def take_simple_fact(cursor, dims, names):
    """Takes a FACT of one word."""
    word = cursor.now()
    if is_numeral(word):
        return ("number", int(cursor.step()))
    if word in AXES[:dims]:
        return ("axis", AXES.index(cursor.step()))
    return ("field", cursor.take(names))


def take_opening(cursor, stack):
    """Takes words that begin an EXPR, as long as such come; the parts that they begin come on the stack."""
    while True:
        if cursor.now() == "-" and not stack[-1].is_begun():
            cursor.step()
            stack[-1].begin_minus()
        if cursor.now() not in ("(", "abs", "min", "max"):
            return
        word = cursor.step()
        if word != "(":
            cursor.take(("(",))
        stack.append(Part(word))


def goes_on(cursor, part):
    """Whether a FACT has to come behind the last one, its sign or comma being taken."""
    word = cursor.now()
    if word == "*" and len(part.factors) < MOST_FACTORS:
        cursor.step()
        return True
    if word in ("+", "-"):
        cursor.step()
        part.next_term(1 if word == "+" else -1)
        return True
    if part.wants_second():
        cursor.take((",",))
        part.next_argument()
        return True
    return False


def take_expression(cursor, dims, names):
    """Takes an EXPR with these names; the stack has the parts that are open, so brackets may be as deep as wished."""
    stack = [Part("")]
    while True:
        take_opening(cursor, stack)
        stack[-1].end_fact(take_simple_fact(cursor, dims, names))
        while not goes_on(cursor, stack[-1]):
            if len(stack) == 1:
                return stack[0].told()
            cursor.take((")",))
            fact = stack.pop().whole()
            stack[-1].end_fact(fact)


def read_expression(space, names, text):
    """The expression, with these names, that the text tells."""
    demand(are_word_names(names), "names")
    demand(isinstance(text, str), "text")
    cursor = Cursor(text, 0)
    expression = take_expression(cursor, space[0], names)
    cursor.finish()
    return expression


def factor_words(tree):
    """The line of a tree as a FACT."""
    return bracketed(expression_words(tree), tree[0] in ("sum", "product"))


def term_words(tree):
    """The line of a tree as a TERM."""
    return bracketed(expression_words(tree), tree[0] == "sum")


def signed_terms(terms):
    """The line of the terms of a sum."""
    line = ("-" if terms[0][0] == -1 else "") + term_words(terms[0][1])
    for sign, tree in terms[1:]:
        line = line + (" + " if sign == 1 else " - ") + term_words(tree)
    return line


def expression_words(tree):
    """The line of an expression, which is one."""
    word = tree[0]
    if word == "number":
        return str(tree[1])
    if word == "axis":
        return axis_word(tree[1])
    if word == "field":
        return tree[1]
    if word == "sum":
        return signed_terms(tree[1])
    if word == "product":
        return " * ".join([factor_words(factor) for factor in tree[1]])
    return word + "(" + ", ".join([expression_words(part) for part in tree[1:]]) + ")"


def expression_line(expression):
    """The line of an expression of the plane or of space."""
    # What is one of the plane is one of space, too.
    demand(expression_fits(3, None, expression), "expression")
    return expression_words(expression)
