import unittest

from tests.helper import BOOK, GREATEST, closed, last, links, many_words, pair, read_closed, some_books, tell, told
from tests.helper import unpair

# Its fields: a b with p, a c with q, a with p q, c with q r; d is without an equivalent.
BOOK_OF_FOUR = tell(1, 2, "a: p, q\nb: p\nc: q, r\nd: -")


def around(texts, s=1, t=2):
    firsts, seconds = read_closed(last(BOOK_OF_FOUR, closed(s, t, texts)))
    return " ".join(x[0] for x in firsts), " ".join(y[0] for y in seconds)


class ClosedTest(unittest.TestCase):
    def test_a_field_s_rows(self):
        self.assertEqual(last(BOOK_OF_FOUR, closed(1, 2, "b")), [0] + told("a 1", "b 1") + told("p 1"))

    def test_of_one_sense(self):
        self.assertEqual(around("a"), ("a", "p q"))
        self.assertEqual(around("b"), ("a b", "p"))
        self.assertEqual(around("c"), ("c", "q r"))

    def test_of_several_senses(self):
        self.assertEqual(around("a, b"), ("a b", "p"))
        self.assertEqual(around("c, a"), ("a c", "q"))

    def test_turned_round(self):
        self.assertEqual(around("q", 2, 1), ("q", "a c"))
        self.assertEqual(around("r", 2, 1), ("q r", "c"))
        self.assertEqual(around("q, p", 2, 1), ("p q", "a"))

    def test_the_same_sense_twice_does_nothing(self):
        for texts in ("b, b", "b,b 1,b", "b 1,b", ",".join(["b"] * 100)):
            self.assertEqual(around(texts), ("a b", "p"))
        self.assertEqual(around("c, a, c"), ("a c", "q"))

    def test_a_sense_without_an_equivalent(self):
        self.assertEqual(last(BOOK_OF_FOUR, closed(1, 2, "d")), [0] + told("a 1", "b 1", "c 1", "d 1") + [0])
        self.assertEqual(around("a, d"), ("a b c d", ""))
        self.assertEqual(last(tell(1, 2, "a: -"), closed(1, 2, "a")), [0] + told("a 1") + [0])
        self.assertEqual(last(pair(1, 2, "a", "b"), unpair(1, 2, "a", "b"), closed(1, 2, "a")), [0] + told("a 1") + [0])

    def test_no_equivalent_in_common(self):
        self.assertEqual(around("b, c"), ("a b c d", ""))
        self.assertEqual(around("a, b, c"), ("a b c d", ""))

    def test_pairs_of_other_tongues_do_not_count(self):
        book = [tell(1, 2, "a: p\nb: q"), tell(1, 3, "a: k\nb: k, l\nc: l")]
        self.assertEqual(read_closed(last(*book, closed(1, 2, "a"))), (["a 1"], ["p 1"]))
        self.assertEqual(read_closed(last(*book, closed(1, 3, "a"))), (["a 1", "b 1"], ["k 1"]))
        self.assertEqual(read_closed(last(*book, closed(1, 2, "c"))), (["a 1", "b 1", "c 1"], []))

    def test_blanks_and_numbers_left_out(self):
        for texts in ("a,b", "a 1,b 1", "  a  ,b", "a   1,   b   1  ", " " * 50 + "a" + " " * 50 + "1,b"):
            self.assertEqual(around(texts), ("a b", "p"), texts)
        book = tell(1, 2, "a 2: p\na: p, q\nb 9: q")
        self.assertEqual(read_closed(last(book, closed(1, 2, "a 2"))), (["a 1", "a 2"], ["p 1"]))
        self.assertEqual(read_closed(last(book, closed(1, 2, "a"))), (["a 1"], ["p 1", "q 1"]))
        self.assertEqual(read_closed(last(book, closed(1, 2, "a,b 9"))), (["a 1", "b 9"], ["q 1"]))

    def test_of_more_than_six_senses(self):
        words = many_words(39)
        book = [tell(1, 2, "\n".join(word + ": p, " + word for word in words))]
        self.assertEqual(read_closed(last(*book, closed(1, 2, words[7]))),
                         ([words[7] + " 1"], ["p 1", words[7] + " 1"]))
        every = [word + " 1" for word in words]
        self.assertEqual(read_closed(last(*book, closed(1, 2, words[1] + "," + words[30]))), (every, ["p 1"]))
        self.assertEqual(read_closed(last(*book, closed(1, 2, ",".join(words)))), (every, ["p 1"]))

    def test_against_the_words(self):
        met = 0
        for calls in some_books(60):
            for s, t in ((1, 2), (3, 1)):
                pairs = links(calls, s, t)
                for x in pairs:
                    for z in pairs:
                        common = [y for y in pairs[x] if y in pairs[z]]
                        expected = [other for other in pairs if set(common) <= set(pairs[other])]
                        self.assertEqual(read_closed(last(*calls, closed(s, t, x + "," + z))), (expected, common))
                        met += len(common) > 1
        self.assertTrue(met > 0)


class ClosedRefusedTest(unittest.TestCase):
    def refused(self, refusal, *texts):
        for text in texts:
            self.assertEqual(last(BOOK_OF_FOUR, closed(1, 2, text)), [refusal], text)

    def test_240_and_241_bytes(self):
        for text in ("a 1," * 59 + "a 1 ", "b".ljust(240), "b".rjust(240), "a," * 119 + "a "):
            self.assertEqual(len(text), 240)
            self.assertEqual(last(BOOK_OF_FOUR, closed(1, 2, text))[0], 0, text)
            self.refused(-2, text + " ", " " + text)
        self.refused(-2, "a," * 120 + "a", "," * 241, " " * 241, "\n" * 241, "a" * 3200)
        self.refused(-5, "," * 240, " " * 240, "\n" * 240)

    def test_wrong_bytes(self):
        for byte in (0, 9, 11, 13, 31, 127, 128, 255, -1, -10, GREATEST, -GREATEST):
            self.refused(-2, [byte], [97, byte], [97, 44, 98, byte], [byte, 44, 97])

    def test_no_sense_s_text(self):
        self.refused(-5, "", " ", ",", "a,", ",a", "a,,b", "a, ,b", "a b", "a 0", "a, b 10", "a1", "A", "a:", "-",
                     "a, -", "abcdefghijklm", "a;b", "a. b", "~")

    def test_a_byte_10(self):
        self.refused(-5, "\n", "a\n", "\na", "a,b\n", "a\n,b", "a,\nb", "a\nb", "a \n1")

    def test_no_such_sense(self):
        self.refused(-3, "e", "a 2", "p", "a, e", "e, a", "a, b, c, d 2", "aa", "e,e")
        self.assertEqual(last(closed(1, 2, "a")), [-3])
        self.assertEqual(last(BOOK_OF_FOUR, closed(2, 1, "a")), [-3])

    def test_no_sense_s_text_ahead_of_no_such_sense(self):
        self.refused(-5, "e, a 0", "a 0, e", "e,", ",e", "e\n", "e,a,,b", "e, a\n")

    def test_length_and_bytes_ahead_of_no_sense_s_text(self):
        self.refused(-2, [44, 44, 127], [97, 32, 48, 44, 31], "a 0".ljust(241), "e".ljust(241), "," + "a" * 240)

    def test_tongues_ahead_of_all(self):
        for text in ("", "a 0", "e", "a".ljust(241), [31], "a"):
            for s, t in ((1, 1), (0, 2), (1, 0), (4, 2), (1, 4), (GREATEST, 1), (1, -GREATEST), (5, 5)):
                self.assertEqual(last(BOOK_OF_FOUR, closed(s, t, text)), [-2], (s, t, text))

    def test_a_book_of_three(self):
        self.assertEqual(read_closed(last(*BOOK, closed(1, 2, "bench, bank"))), (["bank 1", "bench 1"], ["bank 1"]))
        self.assertEqual(read_closed(last(*BOOK, closed(2, 3, "ufer"))), (["strand 1", "ufer 1"], ["orilla 1"]))
