import unittest

from tests.helper import BOOK, drop, lacking, last, links, many_words, pair, read_lacking, some_books, tell, told
from tests.helper import unpair


def lacks(*calls):
    return read_lacking(last(*calls, lacking()))


class LackingTest(unittest.TestCase):
    def test_two_tongues_and_two_senses(self):
        self.assertEqual(last(tell(1, 3, "ab 2: k"), tell(2, 3, "p: k"), lacking()),
                         [0, 1, 1, 2] + told("ab 2")[1:] + told("p 1")[1:])

    def test_nothing_lacking(self):
        self.assertEqual(last(lacking()), [0, 0])
        self.assertEqual(last(tell(1, 2, "a: p, q\nb: -"), tell(3, 1, "k: -"), lacking()), [0, 0])
        self.assertEqual(last(tell(1, 3, "a: k"), tell(2, 3, "p: l"), lacking()), [0, 0])

    def test_a_pair_that_is_there_already_is_not_lacking(self):
        book = [tell(1, 3, "a: k"), tell(2, 3, "p: k")]
        self.assertEqual(last(*book, pair(1, 2, "a", "p"), lacking()), [0, 0])
        self.assertEqual(last(*book, pair(2, 1, "p", "a"), lacking()), [0, 0])
        self.assertEqual(lacks(*book, pair(1, 2, "a", "p"), unpair(1, 2, "a", "p")), (1, [(1, 2, "a 1", "p 1")]))

    def test_the_three_directions_in_their_order(self):
        book = [tell(1, 2, "b: q\nc: r"), tell(1, 3, "a: k\nc: m"), tell(2, 3, "p: k\nq: l")]
        self.assertEqual(lacks(*book), (3, [(1, 2, "a 1", "p 1"), (1, 3, "b 1", "l 1"), (2, 3, "r 1", "m 1")]))

    def test_each_direction_by_itself(self):
        self.assertEqual(lacks(tell(3, 1, "k: a"), tell(3, 2, "k: p")), (1, [(1, 2, "a 1", "p 1")]))
        self.assertEqual(lacks(tell(2, 1, "p: a"), tell(2, 3, "p: k")), (1, [(1, 3, "a 1", "k 1")]))
        self.assertEqual(lacks(tell(1, 2, "a: p"), tell(1, 3, "a: k")), (1, [(2, 3, "p 1", "k 1")]))

    def test_by_the_first_one_s_senses_then_the_second_one_s(self):
        book = [tell(3, 1, "k: b, a 2\nl: ab"), tell(3, 2, "k: z, y\nl: y, x")]
        self.assertEqual(lacks(*book), (6, [(1, 2, "a 2", "y 1"), (1, 2, "a 2", "z 1"), (1, 2, "ab 1", "x 1"),
                                            (1, 2, "ab 1", "y 1"), (1, 2, "b 1", "y 1"), (1, 2, "b 1", "z 1")]))

    def test_over_several_senses_it_lacks_once(self):
        self.assertEqual(lacks(tell(1, 3, "a: k, l, m"), tell(2, 3, "p: k, l")), (1, [(1, 2, "a 1", "p 1")]))

    def test_one_step_alone_is_taken(self):
        # What would be a pair by the lacking ones is not lacking for that.
        self.assertEqual(lacks(tell(1, 3, "a: k"), tell(2, 3, "p: k, l"), pair(1, 3, "b", "l"), pair(1, 2, "b", "p")),
                         (2, [(1, 2, "a 1", "p 1"), (1, 3, "b 1", "k 1")]))

    def test_of_a_book(self):
        self.assertEqual(lacks(*BOOK), (5, [
            (1, 3, "bank 1", "banco 1"), (1, 3, "bank 1", "orilla 1"), (1, 3, "bench 1", "banco 2"),
            (1, 3, "shore 1", "playa 1"), (2, 3, "ufer 1", "banco 2")]))

    def test_a_hundred_and_more(self):
        words = many_words(40)
        rows = [(1, 2, x + " 1", y + " 1") for x in words[:10] for y in words[:10]]
        hundred = [tell(3, 1, "k: " + ",".join(words[:10])), tell(3, 2, "k: " + ",".join(words[:10]))]
        self.assertEqual(lacks(*hundred), (100, rows))
        self.assertEqual(lacks(*hundred, tell(3, 1, "l: zz"), tell(3, 2, "l: zz")), (101, rows))
        self.assertEqual(lacks(*hundred, tell(3, 1, "l: zz"), tell(3, 2, "l: zz"), drop(1, words[0])),
                         (91, rows[10:] + [(1, 2, "zz 1", "zz 1")]))
        most = [tell(3, 1, "k: " + ",".join(words)), tell(3, 2, "k: " + ",".join(words))]
        rows = [(1, 2, x + " 1", y + " 1") for x in words for y in words]
        self.assertEqual(lacks(*most), (1600, rows[:100]))

    def test_a_hundred_of_two_directions_together(self):
        words = many_words(60)
        book = [tell(3, 1, "k: a, b"), tell(3, 2, "k: " + ",".join(words[:30])),
                tell(2, 1, "p: c, d"), tell(2, 3, "p: " + ",".join(words[:39]))]
        rows = [(1, 2, x, y + " 1") for x in ("a 1", "b 1") for y in words[:30]]
        rows += [(1, 3, x, y + " 1") for x in ("c 1", "d 1") for y in words[:39]]
        self.assertEqual(lacks(*book), (60 + 78, rows[:100]))

    def test_against_the_words(self):
        met = 0
        for calls in some_books(60):
            rows = expected(calls)
            self.assertEqual(lacks(*calls), (len(rows), rows[:100]))
            met += len({row[:2] for row in rows}) == 3
        self.assertTrue(met > 0)


def expected(calls):
    rows = []
    for s, t, c in ((1, 2, 3), (1, 3, 2), (2, 3, 1)):
        firsts, seconds, direct = links(calls, s, c), links(calls, t, c), links(calls, s, t)
        rows += [(s, t, x, y) for x in firsts for y in seconds
                 if set(firsts[x]) & set(seconds[y]) and y not in direct[x]]
    return rows
