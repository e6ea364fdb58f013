"""The grammar of [33] as an oracle: all ways to read a text go on side by side, word by word."""

import re

WORD = re.compile(r"[a-z][a-z0-9.]*|[0-9]+|<=|>=|[<>=(),:+\-*]")
RULES = {
    "REGION": ["BOTH ORS"], "ORS": ["", "or BOTH ORS"], "BOTH": ["UNIT ANDS"], "ANDS": ["", "and UNIT ANDS"],
    "UNIT": ["not UNIT", "( REGION )", "ATOM"],
    "SUM": ["PART PARTS", "- PART PARTS"], "PARTS": ["", "SIGN PART PARTS"],
    "PART": ["NUMBER", "NUMBER * QUANTITY", "QUANTITY"],
    "QUANTITY": ["generation", "level", "stage", "size", "low AXIS", "high AXIS", "least FIELD", "most FIELD",
                 "error FIELD"],
    "EXPR": ["TERM TERMS", "- TERM TERMS"], "TERMS": ["", "SIGN TERM TERMS"], "TERM": ["FACT MORE5"],
    "MORE0": [""], **{f"MORE{k}": ["", f"* FACT MORE{k - 1}"] for k in range(1, 6)},
    "FACT": ["NUMBER", "AXIS", "NAME", "( EXPR )", "abs ( EXPR )", "min ( EXPR , EXPR )", "max ( EXPR , EXPR )"],
    "INT": ["NUMBER", "- NUMBER"], "SIGN": ["+", "-"], "MARK": ["<", "<=", "=", ">", ">="],
    "BLOCKS": ["", "BLOCK MOREB"], "MOREB": ["", ", BLOCK MOREB"],
}
REGION_ATOMS = ["all", "box POINT POINT", "upto AXIS <= INT", "upto AXIS SIGN AXIS <= INT", "NAME"]
TEST_ATOMS = ["SUM MARK SUM", "in REGNAME", "out REGNAME", "cut REGNAME", "has POINT", "corner POINT", "bad ( BLOCKS )"]


def rules_for(dims, kind):
    """The rules, with the atoms of regions or of tests."""
    point = ["( INT , INT )"] if dims == 2 else ["( INT , INT , INT )"]
    return {**RULES, "POINT": point, "ATOM": REGION_ATOMS if kind == "region" else TEST_ATOMS}


def fits(symbol, word, dims, names):
    """Whether a word is of a kind that is no rule; names are a dict from NAME, REGNAME, FIELD, WORTH to names."""
    if symbol == "NUMBER":
        return re.fullmatch("0|[1-9][0-9]{0,6}", word) is not None
    if symbol == "AXIS":
        return word in ("x", "y", "z")[:dims]
    if symbol == "BLOCK":
        return re.fullmatch(r"r(0|[1-9][0-9]{0,6})(\.[01]+)?", word) is not None
    if symbol in ("NAME", "REGNAME", "FIELD", "WORTH"):
        return word in names.get(symbol, ())
    return symbol == word


def opened(rules, stack):
    """All stacks that begin with no rule, or are empty, into which one opens."""
    if not stack or stack[0] not in rules:
        return {stack}
    found = set()
    for line in rules[stack[0]]:
        found |= opened(rules, tuple(line.split()) + stack[1:])
    return found


def parted(text):
    """The pairs of word and place, and the first sign of no word, or the length."""
    pairs, at = [], 0
    while at < len(text):
        if text[at] == " ":
            at += 1
            continue
        match = WORD.match(text, at)
        if match is None:
            return pairs, at
        pairs.append((match.group(), at))
        at = match.end()
    return pairs, at


def whole_numbers(words, k):
    """The integers, each with the place of its number, in the points that begin at the word k."""
    found = []
    while k < len(words):
        sign = 1
        if words[k] == "-":
            sign, k = -1, k + 1
        if k < len(words) and words[k].isdigit():
            found.append((sign * int(words[k]), k))
        elif k < len(words) and words[k] not in ("(", ")", ","):
            break
        k += 1
    return found


def wrong_by_sentences(words, dims):
    """The place of the first word that is against the sentences on box and upto, or the number of words."""
    wrong = [len(words)]
    for k, word in enumerate(words):
        if word == "box":
            told = whole_numbers(words, k + 1)[:2 * dims]
            wrong += [at for i, (high, at) in enumerate(told[dims:]) if high <= told[i][0]]
        if word == "upto" and len(words) > k + 3 and words[k + 2] in ("+", "-"):
            wrong += [k + 3] if words[k + 3] == words[k + 1] else []
            told = whole_numbers(words, k + 5)[:1]
            wrong += [at for number, at in told if number % 2 == 1]
    return min(wrong)


def wrong_at(text, start, kind, dims, names):
    """The place told by InvalidText for the text, None if it is right."""
    rules = rules_for(dims, kind)
    pairs, end = parted(text)
    words = [word for word, _ in pairs]
    limit = wrong_by_sentences(words, dims)
    stacks = {(start,)}
    for k, (word, at) in enumerate(pairs):
        stacks = {found for stack in stacks for found in opened(rules, stack)}
        stacks = {stack[1:] for stack in stacks if stack and fits(stack[0], word, dims, names)}
        if not stacks or k == limit:
            return at
    if end < len(text):
        return end
    stacks = {found for stack in stacks for found in opened(rules, stack)}
    return None if () in stacks else len(text)


def spaced(text):
    """The words of a right text, spaced as a line is."""
    words = [word for word, _ in parted(text)[0]]
    line = ""
    for k, word in enumerate(words):
        ahead = words[k - 1] if k > 0 else ""
        leading = ahead == "-" and (k == 1 or words[k - 2] in
                                    ("(", ",", "<", "<=", "=", ">", ">=", "and", "or", "not", ":"))
        joined = k == 0 or ahead == "(" or leading or word in (")", ",") or (word == "(" and ahead in ("min", "max", "abs"))
        line += word if joined else " " + word
    return line
