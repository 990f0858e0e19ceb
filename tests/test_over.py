import unittest
from fractions import Fraction

from tests.helper import BOOK, last, links, over, pair, read_over, some_books, tell


class OverTest(unittest.TestCase):
    def test_shared_score_pair_and_sense(self):
        book = [tell(1, 3, "x: k, l, m"), tell(2, 3, "y: k, l\nz: m, n, o"), tell(1, 2, "x: z")]
        self.assertEqual(last(*book, over(1, 3, 2, "x")),
                         [0, 2, 2, 4, 5, 0, 3, 121, 32, 49, 1, 1, 3, 1, 3, 122, 32, 49])

    def test_every_tongue_in_every_place(self):
        self.assertEqual(read_over(last(*BOOK, over(1, 3, 2, "shore"))),
                         [(1, 1, 1, 1, "ufer 1"), (1, 2, 3, 1, "strand 1")])
        self.assertEqual(read_over(last(*BOOK, over(1, 2, 3, "bank"))),
                         [(1, 2, 3, 0, "banco 1"), (1, 2, 3, 1, "banco 2"), (1, 1, 2, 0, "orilla 1")])
        self.assertEqual(read_over(last(*BOOK, over(3, 1, 2, "orilla"))),
                         [(1, 1, 1, 1, "strand 1"), (1, 2, 3, 1, "ufer 1")])
        self.assertEqual(read_over(last(*BOOK, over(2, 1, 3, "ufer"))),
                         [(1, 2, 3, 0, "banco 2"), (1, 2, 3, 1, "orilla 1")])

    def test_the_greater_score_first(self):
        book = [tell(1, 3, "x: k, l, m"),
                tell(2, 3, "a: k, n, o, p\nb: k, l, m\nc: k, l\nd: k\ne: k, l, m, n\nf: n")]
        self.assertEqual(read_over(last(*book, over(1, 3, 2, "x"))), [
            (3, 1, 1, 0, "b 1"), (3, 6, 7, 0, "e 1"), (2, 4, 5, 0, "c 1"), (1, 1, 2, 0, "d 1"), (1, 2, 7, 0, "a 1")])

    def test_like_scores_in_order(self):
        # 2 of 2 and 4 make the same score as 1 of 2 and 1: 2 over 3.
        book = [tell(1, 3, "x: k, l"), tell(2, 3, "b: k, l, m, n\nc: k\na 2: l\na: k, l, m, n\nd: k, l")]
        self.assertEqual(read_over(last(*book, over(1, 3, 2, "x"))), [
            (2, 1, 1, 0, "d 1"), (2, 2, 3, 0, "a 1"), (1, 2, 3, 0, "a 2"), (2, 2, 3, 0, "b 1"), (1, 2, 3, 0, "c 1")])

    def test_scores_that_lie_close(self):
        # 2 over 38 and 2 over 39 differ by less than one over seven hundred.
        letters = "abcdefghijklmnopqrstuvwxyz"
        many = ["p" + letter for letter in letters] + ["q" + letter for letter in letters[:12]]
        book = [pair(1, 3, "x", "k"), tell(2, 3, "a: k, " + ", ".join(many)), tell(2, 3, "b: k, " + ", ".join(many[1:]))]
        self.assertEqual(read_over(last(*book, over(1, 3, 2, "x"))), [(1, 2, 39, 0, "b 1"), (1, 1, 20, 0, "a 1")])

    def test_nothing_shared(self):
        book = [tell(1, 3, "x: k\nw: -"), tell(2, 3, "y: l\nz: -"), tell(1, 2, "x: y, z")]
        self.assertEqual(last(*book, over(1, 3, 2, "x")), [0, 0])
        self.assertEqual(last(*book, over(1, 3, 2, "w")), [0, 0])

    def test_against_the_words(self):
        met = 0
        for calls in some_books(60):
            for s, c, t in ((1, 2, 3), (3, 1, 2), (2, 3, 1)):
                firsts = links(calls, s, c)
                seconds = links(calls, t, c)
                direct = links(calls, s, t)
                for x in firsts:
                    rows = []
                    for y in seconds:
                        shared = len(set(firsts[x]) & set(seconds[y]))
                        if shared:
                            score = Fraction(2 * shared, len(firsts[x]) + len(seconds[y]))
                            rows.append((-score, y, shared, int(y in direct[x])))
                    expected = [(shared, -score.numerator, score.denominator, known, y)
                                for score, y, shared, known in sorted(rows)]
                    self.assertEqual(read_over(last(*calls, over(s, c, t, x))), expected)
                    met += len(expected) > 1
        self.assertTrue(met > 0)
