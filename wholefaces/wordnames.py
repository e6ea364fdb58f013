"""Which words may be names, and which rows of names may be used."""

RESERVED = (
    "space", "rounds", "cubes", "deep", "region", "solid", "field", "worth", "wish", "all", "box", "upto", "not",
    "and", "or", "x", "y", "z", "min", "max", "abs", "generation", "level", "stage", "size", "low", "high", "least",
    "most", "error", "in", "out", "cut", "has", "corner", "bad",
)

LETTERS = "abcdefghijklmnopqrstuvwxyz"
FIGURES = "0123456789"
LONGEST = 12


def is_word_name(thing):
    """Whether any thing is a word name: a small letter, then letters and figures, not reserved."""
    if not isinstance(thing, str) or not 1 <= len(thing) <= LONGEST or thing in RESERVED:
        return False
    return thing[0] in LETTERS and all([sign in LETTERS or sign in FIGURES for sign in thing])


def are_word_names(thing):
    """Whether any thing is a tuple of word names."""
    return isinstance(thing, tuple) and all([is_word_name(name) for name in thing])


def is_name_of(names, thing):
    """Whether any thing is one of these names; None stands for all word names."""
    if names is None:
        return is_word_name(thing)
    return isinstance(thing, str) and thing in names
