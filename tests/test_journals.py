"""Journals, [102]."""

import unittest

from tools import WRONG_TEXTS, check_parameters
from wholefaces.errors import NotUsable
from wholefaces.journals import Journal, read_journal

NO_LINES = WRONG_TEXTS + ("\n", "a\n", "a\nb", "\na")


class JournalsTest(unittest.TestCase):

    def test_lines(self):
        journal = Journal()
        self.assertEqual((journal.lines(), journal.text()), ((), ""))
        for line in ("drop a", "", "  save  ", "drop a"):
            self.assertIsNone(journal.tell(line))
        self.assertEqual(journal.lines(), ("drop a", "", "  save  ", "drop a"))
        self.assertEqual(journal.text(), "drop a\n\n  save  \ndrop a\n")

    def test_there_and_back(self):
        for lines in ((), ("",), ("", ""), ("a", " b ", ""), ("wish a : bad (r1)",)):
            journal = Journal()
            for line in lines:
                journal.tell(line)
            again = read_journal(journal.text())
            self.assertEqual((again.lines(), again.text()), (lines, journal.text()))

    def test_texts_cut_anywhere(self):
        text = "wish a : bad (r1)\n\n undo \nsave\n"
        lines = ("wish a : bad (r1)", "", " undo ", "save")
        for at in range(len(text) + 1):
            many = text[:at].count("\n")
            self.assertEqual(read_journal(text[:at]).lines(), lines[:many])
        self.assertEqual((read_journal("").lines(), read_journal("save").lines(), read_journal("\nsave").lines()), ((), (), ("",)))
        self.assertEqual(read_journal("a\n" * 3 + "b").text(), "a\na\na\n")

    def test_what_is_no_line(self):
        journal = read_journal("a\n")
        for line in NO_LINES:
            with self.assertRaises(NotUsable) as caught:
                journal.tell(line)
            self.assertEqual((caught.exception.word, caught.exception.at), ("line", -1))
            self.assertEqual((journal.lines(), journal.text()), (("a",), "a\n"))

    def test_objects_share_nothing(self):
        one, other = Journal(), Journal()
        before = one.lines()
        one.tell("a")
        self.assertEqual((before, other.lines(), one.lines()), ((), (), ("a",)))
        one, other = read_journal("a\n"), read_journal("a\n")
        one.tell("b")
        self.assertEqual(other.lines(), ("a",))

    def test_parameters(self):
        def told(text):
            return read_journal(text).lines()
        check_parameters(self, told, [("text", "a\nb")], {"text": WRONG_TEXTS})
        self.assertEqual(read_journal(text="a\n").lines(), ("a",))
        journal = Journal()
        self.assertIsNone(journal.tell(line="a"))
        self.assertEqual(journal.lines(), ("a",))


if __name__ == "__main__":
    unittest.main()
