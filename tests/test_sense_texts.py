"""Texts of senses and tongues in each call that takes them."""

import unittest

from tests.helper import BOOK, GREATEST, alike, ask, back, classes, closed, dictionary, drop, equivalents, everything
from tests.helper import fewest, fields, gaps, last, over, pair, read_senses, senses, tell, twins, unpair, within

# Each call with a sense's text that must be there, the other ones being right.
ASKING = {
    "unpair, first": lambda text: unpair(1, 2, text, "bank"),
    "unpair, second": lambda text: unpair(1, 2, "bank", text),
    "drop": lambda text: drop(1, text),
    "equivalents": lambda text: equivalents(1, 2, text),
    "back": lambda text: back(1, 2, text),
    "over": lambda text: over(1, 3, 2, text),
}

ALL = dict(ASKING)
ALL["pair, first"] = lambda text: pair(1, 2, text, "strand")
ALL["pair, second"] = lambda text: pair(1, 2, "river", text)

# Each call with two tongues.
TWO_TONGUES = {
    "tell": lambda s, t: tell(s, t, "bank: new"),
    "dictionary": dictionary,
    "pair": lambda s, t: pair(s, t, "bank", "new"),
    "unpair": lambda s, t: unpair(s, t, "bank", "bank"),
    "equivalents": lambda s, t: equivalents(s, t, "bank"),
    "back": lambda s, t: back(s, t, "bank"),
    "classes": classes,
    "fields": fields,
    "closed": lambda s, t: closed(s, t, "bank"),
    "within": within,
    "fewest": fewest,
    "gaps": gaps,
    "twins": twins,
    "alike": alike,
}

NO_TONGUES = (0, 4, -1, 10, GREATEST, -GREATEST)

NO_SENSES = (
    "", " ", " " * 20, "abcdefghijklm", "abcdefghijklmnopqrst", "bank 0", "bank 10", "bank 11", "bank1", "bank-1",
    "bank -1", "bank 1 1", "bank bank", "1", "1 bank", "Bank", "bAnk", "bank!", "bank~", "~", "-", ":", ",",
    "bank,", "bank:", "bank\n", "\nbank", "\n", "ba\nnk", "bank\n1", "bank 1\n", "bank `", "{", "`", "bank /", "bank :", "bank a",
)

WRONG_BYTES = (0, 9, 11, 13, 31, 127, 128, 255, 256, 353, -1, -10, -97, GREATEST, -GREATEST)


class SenseTextTest(unittest.TestCase):
    def test_texts_of_the_same_sense(self):
        for text in ("bank", "bank 1", "  bank", "bank  ", "bank     1", "   bank   1   ", " " * 16 + "bank",
                     "bank" + " " * 16, "bank" + " " * 15 + "1"):
            for name in ASKING:
                answer = last(*BOOK, ASKING[name](text))
                self.assertEqual(answer[0], 0, (name, text))
                self.assertEqual(answer, last(*BOOK, ASKING[name]("bank")), (name, text))

    def test_numbers_from_1_to_9(self):
        for number in range(1, 10):
            text = f"word {number}"
            self.assertEqual(read_senses(last(pair(1, 2, text, "a"), senses(1))), [text])
            self.assertEqual(read_senses(last(pair(1, 2, "a", text), senses(2))), [text])

    def test_unlike_numbers_are_unlike_senses(self):
        self.assertEqual(ask(pair(1, 2, "a 2", "b"), drop(1, "a"), drop(1, "a 1"), drop(1, "a 3"), drop(1, "a 2"))[1:],
                         [[-3], [-3], [-3], [0]])

    def test_words_of_1_and_of_12_letters(self):
        for word in ("a", "z", "abcdefghijkl", "zzzzzzzzzzzz"):
            self.assertEqual(read_senses(last(pair(1, 2, word, "a"), senses(1))), [word + " 1"])
            self.assertEqual(read_senses(last(pair(1, 2, "a", word + " 9"), senses(2))), [word + " 9"])

    def test_a_word_of_13_letters(self):
        for name in ALL:
            self.assertEqual(last(*BOOK, ALL[name]("abcdefghijkl"))[0], -3 if name in ASKING else 0, name)
            self.assertEqual(last(*BOOK, ALL[name]("abcdefghijklm")), [-5], name)

    def test_20_and_21_bytes(self):
        for name in ALL:
            self.assertEqual(last(*BOOK, ALL[name]("bank".ljust(20)))[0], 0, name)
            for text in ("bank".ljust(21), "bank".rjust(21), "bank" + " " * 16 + "1", "a" * 21, " " * 21, "\n" * 21,
                         " " * 3200):
                self.assertEqual(last(*BOOK, ALL[name](text)), [-2], (name, text))

    def test_texts_that_are_no_senses(self):
        for name in ALL:
            for text in NO_SENSES:
                self.assertEqual(last(*BOOK, ALL[name](text)), [-5], (name, text))

    def test_wrong_bytes(self):
        for name in ALL:
            for byte in WRONG_BYTES:
                self.assertEqual(last(*BOOK, ALL[name]([98, byte])), [-2], (name, byte))
                self.assertEqual(last(*BOOK, ALL[name]([byte])), [-2], (name, byte))

    def test_wrong_bytes_ahead_of_no_sense(self):
        for name in ALL:
            self.assertEqual(last(*BOOK, ALL[name]([65, 10, 127])), [-2], name)

    def test_no_such_sense(self):
        for name in ASKING:
            for text in ("nowhere", "bank 9", "playa", "ban", "bankk"):
                self.assertEqual(last(*BOOK, ASKING[name](text)), [-3], (name, text))
            self.assertEqual(last(ASKING[name]("bank")), [-3], name)

    def test_a_sense_of_another_tongue_is_not_there(self):
        self.assertEqual(last(*BOOK, equivalents(1, 2, "ufer")), [-3])
        self.assertEqual(last(*BOOK, drop(2, "river")), [-3])
        self.assertEqual(last(*BOOK, unpair(1, 2, "bank", "river")), [-3])

    def test_nothing_changes_when_refused(self):
        before = ask(*BOOK, *everything())[len(BOOK):]
        for name in ALL:
            for text in ("new".ljust(21), "new 0", [110, 31]):
                after = ask(*BOOK, ALL[name](text), *everything())[len(BOOK) + 1:]
                self.assertEqual(after, before, (name, text))


class TongueTest(unittest.TestCase):
    def test_no_tongue(self):
        for name in TWO_TONGUES:
            for wrong in NO_TONGUES:
                self.assertEqual(last(*BOOK, TWO_TONGUES[name](wrong, 2)), [-2], (name, wrong))
                self.assertEqual(last(*BOOK, TWO_TONGUES[name](1, wrong)), [-2], (name, wrong))
        for wrong in NO_TONGUES:
            self.assertEqual(last(*BOOK, drop(wrong, "bank")), [-2])
            self.assertEqual(last(*BOOK, senses(wrong)), [-2])

    def test_tongues_that_are_not_unlike(self):
        for name in TWO_TONGUES:
            for s in (1, 2, 3):
                self.assertEqual(last(*BOOK, TWO_TONGUES[name](s, s)), [-2], (name, s))

    def test_three_tongues(self):
        for wrong in NO_TONGUES:
            for s, c, t in ((wrong, 2, 3), (1, wrong, 3), (1, 2, wrong)):
                self.assertEqual(last(*BOOK, over(s, c, t, "bank")), [-2], (s, c, t))
        for s, c, t in ((1, 1, 2), (1, 2, 1), (2, 1, 1), (1, 1, 1), (1, 2, 2), (3, 3, 1)):
            self.assertEqual(last(*BOOK, over(s, c, t, "bank")), [-2], (s, c, t))

    def test_every_right_choice_of_tongues(self):
        book = [tell(1, 2, "bank: bank"), tell(2, 3, "bank: bank"), tell(3, 1, "bank: bank")]
        for s in (1, 2, 3):
            for t in (1, 2, 3):
                if s != t:
                    for name in TWO_TONGUES:
                        self.assertEqual(last(*book, TWO_TONGUES[name](s, t))[0], 0, (name, s, t))
                    self.assertEqual(last(*book, over(s, 6 - s - t, t, "bank"))[0], 0, (s, t))
            self.assertEqual(last(*book, drop(s, "bank")), [0])
            self.assertEqual(last(*book, senses(s))[0], 0)

    def test_tongues_ahead_of_texts(self):
        for text in ("", "bank 0", "nowhere", "a" * 21, [31]):
            for call in (pair(1, 1, text, "bank"), pair(1, 4, "bank", text), unpair(0, 2, text, "bank"),
                         unpair(1, 1, "bank", text), drop(4, text), equivalents(1, 1, text), back(1, 0, text),
                         over(1, 2, 2, text), over(1, 4, 2, text)):
                self.assertEqual(last(*BOOK, call), [-2], text)
