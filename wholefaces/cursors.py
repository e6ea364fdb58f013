"""A cursor goes over the words of a line and raises InvalidText at the first one that may not stand."""

from wholefaces.errors import InvalidText
from wholefaces.wordnames import FIGURES
from wholefaces.words import split_words

AXES = ("x", "y", "z")
MOST_FIGURES = 7


class Cursor:
    """The words of the text of a line, and how many of them have been taken."""

    def __init__(self, text, line):
        pairs, end = split_words(text)
        self.pairs = pairs
        self.end = end
        self.sound = end == len(text)
        self.line = line
        self.taken = 0

    def now(self):
        """The first word that has not been taken; "" behind the last one."""
        if self.taken == len(self.pairs):
            return ""
        return self.pairs[self.taken][0]

    def fail(self):
        """Raises InvalidText at the first word that has not been taken."""
        if self.taken == len(self.pairs):
            raise InvalidText(self.line, self.end)
        raise InvalidText(self.line, self.pairs[self.taken][1])

    def step(self):
        """Takes the word that stands here, which is returned."""
        word = self.now()
        self.taken = self.taken + 1
        return word

    def take(self, words):
        """Takes a word, which is returned; it has to be one of these."""
        if self.now() not in words:
            self.fail()
        return self.step()

    def finish(self):
        """Raises InvalidText if there is a word, or a sign of no word, that has not been taken."""
        if self.taken < len(self.pairs) or not self.sound:
            self.fail()


def is_numeral(word):
    """Whether the word is 0, or one to seven figures, the first not 0."""
    if word == "0":
        return True
    if word == "" or len(word) > MOST_FIGURES or word[0] == "0":
        return False
    return all([sign in FIGURES for sign in word])


def take_bounded(cursor, low, high):
    """Takes a NUMBER from low to high, which is returned."""
    if not is_numeral(cursor.now()) or not low <= int(cursor.now()) <= high:
        cursor.fail()
    return int(cursor.step())


def take_integer(cursor, below, divisor):
    """Takes an INT, which is returned: a multiple of the divisor, and above below, unless this is None."""
    sign = 1
    if cursor.now() == "-":
        cursor.step()
        sign = -1
    if not is_numeral(cursor.now()):
        cursor.fail()
    number = sign * int(cursor.now())
    if number % divisor != 0 or (below is not None and number <= below):
        cursor.fail()
    cursor.step()
    return number


def take_point(cursor, dims, lows):
    """Takes a POINT, which is returned: its numbers are above lows, unless this is None."""
    cursor.take(("(",))
    numbers = []
    for i in range(dims):
        if i > 0:
            cursor.take((",",))
        numbers.append(take_integer(cursor, None if lows is None else lows[i], 1))
    cursor.take((")",))
    return tuple(numbers)


def take_axis(cursor, dims):
    """Takes an AXIS, the direction of which is returned."""
    return AXES.index(cursor.take(AXES[:dims]))


def axis_word(axis):
    """The word of a direction."""
    return AXES[axis]
