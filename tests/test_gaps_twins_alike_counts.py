import unittest

from tests.helper import BOOK, alike, ask, counts, drop, gaps, last, links, many_words, pair, read_alike, read_senses
from tests.helper import read_twins, some_books, tell, told, twins, unpair

DIRECTIONS = ((1, 2), (2, 1), (1, 3), (3, 1), (2, 3), (3, 2))


class GapsTest(unittest.TestCase):
    def test_senses_without_an_equivalent(self):
        answered = ask(*BOOK, *[gaps(s, t) for s, t in DIRECTIONS])[len(BOOK):]
        self.assertEqual(answered, [[0] + told("river 1"), [0, 0], [0] + told("bank 2", "river 1"),
                                    [0] + told("playa 1"), [0] + told("kasse 1"), [0, 0]])

    def test_none(self):
        self.assertEqual(last(gaps(1, 2)), [0, 0])
        self.assertEqual(last(tell(1, 2, "a: p\nb: p, q"), gaps(1, 2)), [0, 0])

    def test_all(self):
        book = [tell(1, 2, "b: -\na 2: -\nab: -\na: -"), tell(1, 3, "a: k\nb: k"), tell(2, 3, "p: k")]
        self.assertEqual(read_senses(last(*book, gaps(1, 2))), ["a 1", "a 2", "ab 1", "b 1"])
        self.assertEqual(read_senses(last(*book, gaps(2, 1))), ["p 1"])

    def test_behind_unpair_and_drop(self):
        book = tell(1, 2, "a: p\nb: q, r")
        self.assertEqual(read_senses(last(book, unpair(1, 2, "a", "p"), gaps(1, 2))), ["a 1"])
        self.assertEqual(read_senses(last(book, unpair(1, 2, "b", "q"), gaps(1, 2))), [])
        self.assertEqual(read_senses(last(book, drop(1, "b"), gaps(2, 1))), ["q 1", "r 1"])

    def test_against_the_words(self):
        for calls in some_books(60):
            for s, t in DIRECTIONS:
                pairs = links(calls, s, t)
                self.assertEqual(read_senses(last(*calls, gaps(s, t))), [x for x in pairs if not pairs[x]])


class TwinsTest(unittest.TestCase):
    def test_a_group_of_two(self):
        self.assertEqual(last(tell(1, 2, "a: p, q\nb: p\nc: q, p"), twins(1, 2)), [0, 1] + told("a 1", "c 1"))

    def test_a_group_of_three(self):
        self.assertEqual(read_twins(last(tell(1, 2, "c: p\na 2: p\na: p\nb: q"), twins(1, 2))), [["a 1", "a 2", "c 1"]])

    def test_two_groups_by_their_first_senses(self):
        book = tell(1, 2, "d: p\nb: z\nc: z\na: q, r\ne: p\nf: z\ng: r, q, p")
        self.assertEqual(read_twins(last(book, twins(1, 2))), [["b 1", "c 1", "f 1"], ["d 1", "e 1"]])
        self.assertEqual(read_twins(last(book, pair(1, 2, "a 2", "p"), twins(1, 2))),
                         [["a 2", "d 1", "e 1"], ["b 1", "c 1", "f 1"]])

    def test_senses_without_equivalents_are_none(self):
        book = [tell(1, 2, "a: -\nb: -\nc: p"), tell(1, 3, "a: k\nb: k")]
        self.assertEqual(last(*book, twins(1, 2)), [0, 0])
        self.assertEqual(read_twins(last(*book, twins(1, 3))), [["a 1", "b 1"]])
        self.assertEqual(last(twins(1, 2)), [0, 0])

    def test_just_the_same_equivalents(self):
        self.assertEqual(last(tell(1, 2, "a: p\nb: p, q\nc: q\nd: p, q, r"), twins(1, 2)), [0, 0])
        self.assertEqual(last(tell(1, 2, "a: p\nb: p 2"), twins(1, 2)), [0, 0])

    def test_turned_round(self):
        book = tell(1, 2, "a: p, q\nb: q, p, r")
        self.assertEqual(last(book, twins(1, 2)), [0, 0])
        self.assertEqual(read_twins(last(book, twins(2, 1))), [["p 1", "q 1"]])

    def test_against_the_words(self):
        met = 0
        for calls in some_books(120):
            for s, t in DIRECTIONS:
                pairs = links(calls, s, t)
                groups = [[z for z in pairs if pairs[z] == pairs[x]] for x in pairs if pairs[x]]
                expected = sorted(group for k, group in enumerate(groups) if len(group) > 1 and group not in groups[:k])
                self.assertEqual(read_twins(last(*calls, twins(s, t))), expected)
                met += len(expected) > 1
        self.assertTrue(met > 0)


class AlikeTest(unittest.TestCase):
    def test_each_with_1_or_0(self):
        self.assertEqual(last(tell(1, 2, "ab: p\nc: c\nd: ab"), alike(1, 2)), [0, 2, 0, 2, 97, 98, 1, 1, 99])

    def test_in_order(self):
        book = tell(1, 2, "bank: x\nb: bank\nban: b\nx: ban\na: y")
        self.assertEqual(read_alike(last(book, alike(1, 2))), [(0, "b"), (0, "ban"), (0, "bank"), (0, "x")])

    def test_a_word_with_several_senses_is_told_once(self):
        book = tell(1, 2, "a: p\na 2: q\na 5: -\np: a\nq: a 2\nr: a 3")
        self.assertEqual(read_alike(last(book, alike(1, 2))), [(0, "a"), (0, "p"), (0, "q")])
        self.assertEqual(read_alike(last(book, pair(1, 2, "a 5", "a 3"), alike(1, 2))), [(1, "a"), (0, "p"), (0, "q")])

    def test_a_word_that_another_begins_with(self):
        book = tell(1, 2, "ban: bank\nbank: ban\nbanks: p")
        self.assertEqual(read_alike(last(book, alike(1, 2))), [(0, "ban"), (0, "bank")])

    def test_paired_by_another_sense_s_number(self):
        self.assertEqual(read_alike(last(tell(1, 2, "a 2: a 7"), alike(1, 2))), [(1, "a")])
        self.assertEqual(read_alike(last(tell(1, 2, "a: b, a 2"), alike(1, 2))), [(1, "a")])
        self.assertEqual(read_alike(last(tell(1, 2, "a: b\nb: a\na 2: -\nc: a 2"), alike(1, 2))), [(0, "a"), (0, "b")])

    def test_paired_only_with_a_third_tongue(self):
        book = [tell(1, 3, "a: a"), tell(2, 3, "a: a"), tell(2, 1, "b: -")]
        answered = ask(*book, alike(1, 2), alike(2, 1), alike(1, 3), alike(3, 2))[len(book):]
        self.assertEqual([read_alike(answer) for answer in answered], [[(0, "a")], [(0, "a")], [(1, "a")], [(1, "a")]])

    def test_paired_with_a_word_that_only_begins_so(self):
        self.assertEqual(read_alike(last(tell(1, 2, "a: ab\nb: a\n"), alike(1, 2))), [(0, "a")])

    def test_none(self):
        self.assertEqual(last(alike(1, 2)), [0, 0])
        self.assertEqual(last(tell(1, 2, "a: b"), tell(1, 3, "c: a"), alike(1, 2)), [0, 0])

    def test_of_forty_words(self):
        words = many_words(40)
        book = tell(1, 2, "\n".join(f"{word}: {word} 2" for word in words))
        self.assertEqual(read_alike(last(book, alike(2, 1))), [(1, word) for word in words])

    def test_against_the_words(self):
        met = {}
        for calls in some_books(60):
            for s, t in DIRECTIONS:
                pairs = links(calls, s, t)
                words = sorted({x[:-2] for x in pairs} & {y[:-2] for y in links(calls, t, s)})
                expected = [(int(any(x[:-2] == y[:-2] == word for x in pairs for y in pairs[x])), word)
                            for word in words]
                self.assertEqual(read_alike(last(*calls, alike(s, t))), expected)
                met.update(expected)
        self.assertEqual(sorted(met), [0, 1])


class CountsTest(unittest.TestCase):
    def test_none_at_first(self):
        self.assertEqual(last(counts()), [0, 0, 0, 0, 0, 0, 0])

    def test_senses_of_each_tongue_and_pairs_of_each_two(self):
        self.assertEqual(last(*BOOK, counts()), [0, 5, 4, 4, 6, 3, 5])
        self.assertEqual(last(tell(1, 2, "a: p, q"), tell(3, 1, "k: a"), tell(2, 3, "p: k, l, m\nq: k, l"), counts()),
                         [0, 1, 2, 3, 2, 1, 5])

    def test_behind_tell(self):
        self.assertEqual(last(tell(1, 2, "a: p, p 1, q\nb: -\na: q"), counts()), [0, 2, 2, 0, 2, 0, 0])
        self.assertEqual(last(tell(3, 2, "a: p, q"), tell(2, 3, "q: a, b"), counts()), [0, 0, 2, 2, 0, 0, 3])
        self.assertEqual(last(tell(1, 2, "a: p\nwrong"), counts()), [0, 0, 0, 0, 0, 0, 0])

    def test_behind_pair_unpair_and_drop(self):
        calls = [pair(1, 2, "a", "p"), pair(3, 1, "k", "a"), pair(2, 3, "p", "k"), pair(2, 3, "p", "l"),
                 unpair(2, 1, "p", "a"), unpair(1, 2, "a", "p"), drop(3, "k"), drop(2, "p")]
        expected = [[0, 1, 1, 0, 1, 0, 0], [0, 1, 1, 1, 1, 1, 0], [0, 1, 1, 1, 1, 1, 1], [0, 1, 1, 2, 1, 1, 2],
                    [0, 1, 1, 2, 0, 1, 2], [0, 1, 1, 2, 0, 1, 2], [0, 1, 1, 1, 0, 0, 1], [0, 1, 0, 1, 0, 0, 0]]
        for k, row in enumerate(expected):
            self.assertEqual(last(*calls[:k + 1], counts()), row, k)

    def test_against_the_words(self):
        for calls in some_books(60):
            expected = [len(links(calls, s, s % 3 + 1)) for s in (1, 2, 3)]
            expected += [sum(map(len, links(calls, s, t).values())) for s, t in ((1, 2), (1, 3), (2, 3))]
            self.assertEqual(last(*calls, counts()), [0] + expected)
