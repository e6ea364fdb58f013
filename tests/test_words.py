"""Words, [31]."""

import random
import unittest

from grammar import parted
from tools import WRONG_TEXTS, check_parameters, check_wrong_text
from wholefaces.words import words_of


class WordsTest(unittest.TestCase):

    def test_words(self):
        for text, words in (
                ("", []), ("   ", []), ("a", ["a"]), ("a b", ["a", "b"]), ("a1.b.2 c", ["a1.b.2", "c"]),
                ("12ab", ["12", "ab"]), ("ab12", ["ab12"]), ("007", ["007"]), ("<=>=<>=", ["<=", ">=", "<", ">="]),
                ("<==", ["<=", "="]), ("=<", ["=", "<"]), ("(),:+-*", ["(", ")", ",", ":", "+", "-", "*"]),
                ("r1.01,r2", ["r1.01", ",", "r2"]), ("2-x*x", ["2", "-", "x", "*", "x"]), ("a.", ["a."]),
                ("x" * 40 + "1" * 70, ["x" * 40 + "1" * 70]), ("1" * 70 + "x", ["1" * 70, "x"])):
            told = words_of(text)
            self.assertIsInstance(told, tuple)
            self.assertEqual([word for word, _ in told], words)
            for word, at in told:
                self.assertEqual(text[at:at + len(word)], word)
        self.assertEqual(words_of(" a  <= 12 "), (("a", 1), ("<=", 4), ("12", 7)))

    def test_wrong_signs(self):
        for text, at in (("A", 0), ("aB", 1), ("a b_c", 3), (".", 0), ("1.5", 1), (" .a", 1), ("a\nb", 1), ("!", 0),
                         ("a;", 1), ("a /b", 2), ("[", 0), ("a 'b'", 2), ("12 ~", 3), ("a..b {", 5)):
            check_wrong_text(self, words_of, text, at)

    def test_random_texts(self):
        rolls = random.Random(2)
        for k in range(3000):
            text = "".join(rolls.choice("aby19.. <>=(),:+-*A") for _ in range(rolls.randrange(12)))
            pairs, end = parted(text)
            if end < len(text):
                check_wrong_text(self, words_of, text, end)
            else:
                self.assertEqual(words_of(text), tuple(pairs))

    def test_parameters(self):
        check_parameters(self, words_of, [("text", "a <= b")], {"text": WRONG_TEXTS})


if __name__ == "__main__":
    unittest.main()
