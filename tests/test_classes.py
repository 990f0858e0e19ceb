import unittest

from tests.helper import BOOK, ask, classes, equivalents, last, many_words, pair, read_classes, read_senses, senses
from tests.helper import some_books, tell, told


class ClassesTest(unittest.TestCase):
    def test_what_hangs_together(self):
        self.assertEqual(last(*BOOK, classes(1, 2)),
                         [0, 2, 0] + told("bank 1", "bench 1", "shore 1") + told("bank 1", "strand 1", "ufer 1")
                         + [1] + told("bank 2") + told("kasse 1"))

    def test_turned_round(self):
        self.assertEqual(read_classes(last(*BOOK, classes(2, 1))), [
            (0, ["bank 1", "strand 1", "ufer 1"], ["bank 1", "bench 1", "shore 1"]),
            (1, ["kasse 1"], ["bank 2"]),
        ])

    def test_by_their_first_senses_of_the_first_tongue(self):
        book = tell(1, 2, "b: p\na: z\nc: a\nd: z\nab: q")
        self.assertEqual(read_classes(last(book, classes(1, 2))), [
            (1, ["a 1", "d 1"], ["z 1"]), (1, ["ab 1"], ["q 1"]), (1, ["b 1"], ["p 1"]), (1, ["c 1"], ["a 1"])])
        self.assertEqual([row[1][0] for row in read_classes(last(book, classes(2, 1)))], ["a 1", "p 1", "q 1", "z 1"])

    def test_complete(self):
        full = "a: p, q\nb: p, q"
        self.assertEqual(read_classes(last(tell(1, 2, full), classes(1, 2)))[0][0], 1)
        for text in ("a: p, q\nb: p", "a: p\nb: p, q", "a: q\nb: p, q", full + "\nc: q", full + ", r"):
            self.assertEqual(read_classes(last(tell(1, 2, text), classes(1, 2)))[0][0], 0, text)

    def test_of_no_pairs(self):
        self.assertEqual(last(classes(1, 2)), [0, 0])
        self.assertEqual(last(tell(1, 2, "a: -\nb: -"), tell(2, 1, "c: -"), classes(1, 2)), [0, 0])

    def test_pairs_of_the_third_tongue_do_not_count(self):
        book = [tell(1, 2, "a: p\nb: q"), tell(1, 3, "a: z\nb: z"), tell(2, 3, "p: z\nq: z")]
        self.assertEqual(read_classes(last(*book, classes(1, 2))), [(1, ["a 1"], ["p 1"]), (1, ["b 1"], ["q 1"])])

    def test_a_long_chain(self):
        words = many_words(40)
        # The chain's ends lie apart, so that it's walked from its first sense to its last.
        calls = [tell(1, 2, "\n".join(f"{words[k]}: {words[k]}, {words[(k + 1) % 40]}" for k in range(39)))]
        names = [word + " 1" for word in words]
        self.assertEqual(read_classes(last(*calls, classes(1, 2))), [(0, names[:39], names)])
        self.assertEqual(read_classes(last(*calls, pair(1, 2, words[39], words[0]), classes(1, 2))),
                         [(0, names, names)])


class PromiseFourTest(unittest.TestCase):
    def test_no_sense_is_shared_and_no_pair_leads_out(self):
        several = 0
        for calls in some_books(60):
            for s, t in ((1, 2), (2, 1), (1, 3), (3, 2)):
                found = read_classes(last(*calls, classes(s, t)))
                several += len(found) > 1
                for tongue, other, side in ((s, t, 1), (t, s, 2)):
                    names = read_senses(last(*calls, senses(tongue)))
                    answered = ask(*calls, *[equivalents(tongue, other, x) for x in names])[len(calls):]
                    for x, answer in zip(names, answered):
                        own = [row for row in found if x in row[side]]
                        paired = read_senses(answer)
                        self.assertEqual(len(own), 1 if paired else 0)
                        for y in paired:
                            self.assertIn(y, own[0][3 - side])
        self.assertTrue(several > 0)

    def test_no_class_falls_apart(self):
        for calls in some_books(60):
            names = read_senses(last(*calls, senses(1)))
            answered = ask(*calls, *[equivalents(1, 2, x) for x in names])[len(calls):]
            pairs = {x: read_senses(answer) for x, answer in zip(names, answered)}
            for complete, firsts, seconds in read_classes(last(*calls, classes(1, 2))):
                met = set(pairs[firsts[0]])
                for step in firsts:
                    for x in firsts:
                        if met & set(pairs[x]):
                            met |= set(pairs[x])
                self.assertEqual(sorted(met), seconds)
                self.assertEqual(complete == 1, all(pairs[x] == seconds for x in firsts))
