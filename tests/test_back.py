import unittest

from tests.helper import BOOK, ask, back, last, pair, read_back, read_senses, senses, some_books, tell, unpair


class BackTest(unittest.TestCase):
    def test_each_with_how_many_they_share(self):
        book = tell(1, 2, "d: p\na: p, q, r\nc 2: q, r, s\nb: s\nc: r")
        self.assertEqual(last(book, back(1, 2, "a")),
                         [0, 4, 3, 3, 97, 32, 49, 1, 3, 99, 32, 49, 2, 3, 99, 32, 50, 1, 3, 100, 32, 49])
        self.assertEqual(read_back(last(book, back(1, 2, "b"))), {"b 1": 1, "c 2": 1})
        self.assertEqual(read_back(last(book, back(2, 1, "r"))), {"p 1": 1, "q 1": 2, "r 1": 3, "s 1": 1})

    def test_in_order(self):
        book = tell(1, 2, "b: p\nab: p\na 9: p\na: p, q\nz: q")
        self.assertEqual(list(read_back(last(book, back(1, 2, "b")))), ["a 1", "a 9", "ab 1", "b 1"])

    def test_the_sense_itself_only_if_it_has_an_equivalent(self):
        self.assertEqual(last(*BOOK, back(1, 2, "river")), [0, 0])
        self.assertEqual(last(*BOOK, back(1, 3, "bank 2")), [0, 0])
        self.assertEqual(read_back(last(*BOOK, back(1, 2, "bank 2"))), {"bank 2": 1})
        self.assertEqual(last(pair(1, 2, "a", "b"), unpair(1, 2, "a", "b"), back(1, 2, "a")), [0, 0])

    def test_other_tongues_do_not_count(self):
        book = [tell(1, 2, "a: p\nb: q"), tell(1, 3, "a: p\nb: p")]
        self.assertEqual(read_back(last(*book, back(1, 2, "a"))), {"a 1": 1})
        self.assertEqual(read_back(last(*book, back(1, 3, "a"))), {"a 1": 1, "b 1": 1})


class PromiseTwoTest(unittest.TestCase):
    def test_x_leads_to_z_by_as_many_as_z_to_x(self):
        shared = 0
        for calls in some_books(60):
            for s, t in ((1, 2), (2, 1), (1, 3), (3, 2)):
                names = read_senses(last(*calls, senses(s)))
                answered = ask(*calls, *[back(s, t, x) for x in names])[len(calls):]
                leads = {x: read_back(answer) for x, answer in zip(names, answered)}
                for x in names:
                    for z in names:
                        self.assertEqual(leads[x].get(z), leads[z].get(x), (s, t, x, z))
                        shared += leads[x].get(z, 0) > 1 and x != z
        self.assertTrue(shared > 0)
