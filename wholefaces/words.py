"""Texts parted into words."""

from wholefaces.checks import demand
from wholefaces.errors import InvalidText
from wholefaces.wordnames import FIGURES, LETTERS

SIGNS = ("<=", ">=", "<", ">", "=", "(", ")", ",", ":", "+", "-", "*")
BEHIND_LETTER = "abcdefghijklmnopqrstuvwxyz0123456789."


def end_of_run(text, at, signs):
    """The first place from this one on that has none of these signs."""
    while at < len(text) and text[at] in signs:
        at = at + 1
    return at


def end_of_word(text, at):
    """The place behind the word that begins here; the place itself if none does."""
    if text[at] in LETTERS:
        return end_of_run(text, at, BEHIND_LETTER)
    if text[at] in FIGURES:
        return end_of_run(text, at, FIGURES)
    for sign in SIGNS:
        if text.startswith(sign, at):
            return at + len(sign)
    return at


def split_words(text):
    """The pairs of word and place, and where they end: the first sign of no word, or the text's length."""
    pairs = []
    at = end_of_run(text, 0, " ")
    while at < len(text):
        end = end_of_word(text, at)
        if end == at:
            return tuple(pairs), at
        pairs.append((text[at:end], at))
        at = end_of_run(text, end, " ")
    return tuple(pairs), at


def words_of(text):
    """The pairs of word and place of its first sign."""
    demand(isinstance(text, str), "text")
    pairs, end = split_words(text)
    if end < len(text):
        raise InvalidText(0, end)
    return pairs
