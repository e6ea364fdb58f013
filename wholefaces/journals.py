"""Journals: lines, kept in the sequence in which they were told."""

from wholefaces.checks import demand


def is_line(thing):
    """Whether any thing is a string without newline."""
    return isinstance(thing, str) and "\n" not in thing


class Journal:
    """The lines that were told so far."""

    def __init__(self):
        self._kept = ()

    def tell(self, line):
        """The line comes behind the others."""
        demand(is_line(line), "line")
        self._kept = self._kept + (line,)

    def lines(self):
        """The lines."""
        return self._kept

    def text(self):
        """All lines in one string, a newline behind each."""
        return "".join([line + "\n" for line in self._kept])


def read_journal(text):
    """The journal of those lines of the text that a newline closes."""
    demand(isinstance(text, str), "text")
    journal = Journal()
    for line in text.split("\n")[:-1]:
        journal.tell(line)
    return journal
