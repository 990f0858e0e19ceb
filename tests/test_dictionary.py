import unittest

from tests.helper import BOOK, ask, dictionary, equivalents, last, many_words, pair, printed, read_senses, senses
from tests.helper import some_books, tell, told

DIRECTIONS = ((1, 2), (2, 1), (1, 3), (3, 1), (2, 3), (3, 2))


class SensesTest(unittest.TestCase):
    def test_none_at_first(self):
        self.assertEqual(ask(senses(1), senses(2), senses(3)), [[0, 0]] * 3)

    def test_each_is_a_row_of_bytes(self):
        self.assertEqual(last(tell(1, 2, "ab 3: -\na: -"), senses(1)), [0, 2, 3, 97, 32, 49, 4, 97, 98, 32, 51])

    def test_in_order_by_words_then_by_numbers(self):
        text = "b: -\nab 2: -\na 9: -\nabc: -\nab 1: -\naa 5: -\na 1: -\nz: -\nba: -"
        self.assertEqual(read_senses(last(tell(1, 2, text), senses(1))),
                         ["a 1", "a 9", "aa 5", "ab 1", "ab 2", "abc 1", "b 1", "ba 1", "z 1"])

    def test_only_those_of_the_tongue(self):
        book = [tell(1, 2, "a: b"), tell(1, 3, "a: c")]
        self.assertEqual(ask(*book, senses(1), senses(2), senses(3))[2:],
                         [[0] + told("a 1"), [0] + told("b 1"), [0] + told("c 1")])


class EquivalentsTest(unittest.TestCase):
    def test_in_order(self):
        self.assertEqual(last(tell(1, 2, "x: b, ab 2, a 9, ab, a"), equivalents(1, 2, "x")),
                         [0] + told("a 1", "a 9", "ab 1", "ab 2", "b 1"))

    def test_of_the_tongue_asked_for_alone(self):
        answered = ask(*BOOK, equivalents(1, 2, "bank"), equivalents(1, 3, "bank"), equivalents(2, 1, "bank"))
        self.assertEqual(answered[len(BOOK):],
                         [[0] + told("bank 1", "ufer 1"), [0] + told("banco 2"), [0] + told("bank 1", "bench 1")])

    def test_none(self):
        self.assertEqual(last(*BOOK, equivalents(1, 2, "river")), [0, 0])
        self.assertEqual(last(*BOOK, equivalents(1, 3, "bank 2")), [0, 0])


class DictionaryTest(unittest.TestCase):
    def test_printed(self):
        answered = ask(*BOOK, *[dictionary(s, t) for s, t in DIRECTIONS])[len(BOOK):]
        self.assertEqual([printed(answer) for answer in answered], [
            "bank 1: bank 1, ufer 1\nbank 2: kasse 1\nbench 1: bank 1\nriver 1: -\nshore 1: strand 1, ufer 1\n",
            "bank 1: bank 1, bench 1\nkasse 1: bank 2\nstrand 1: shore 1\nufer 1: bank 1, shore 1\n",
            "bank 1: banco 2\nbank 2: -\nbench 1: banco 1\nriver 1: -\nshore 1: orilla 1\n",
            "banco 1: bench 1\nbanco 2: bank 1\norilla 1: shore 1\nplaya 1: -\n",
            "bank 1: banco 1, banco 2\nkasse 1: -\nstrand 1: orilla 1, playa 1\nufer 1: orilla 1\n",
            "banco 1: bank 1\nbanco 2: bank 1\norilla 1: strand 1, ufer 1\nplaya 1: strand 1\n",
        ])

    def test_of_nothing(self):
        self.assertEqual(last(dictionary(1, 2)), [0, 0])
        self.assertEqual(last(tell(1, 2, "a: b"), dictionary(3, 1)), [0, 0])

    def test_of_forty_senses_each_with_forty_equivalents(self):
        words = many_words(40)
        texts = [word + ":" + ",".join(words) for word in words]
        calls = [tell(1, 2, "\n".join(texts[k:k + 16])) for k in (0, 16, 32)]
        line = ": " + ", ".join(word + " 1" for word in words) + "\n"
        self.assertEqual(printed(last(*calls, dictionary(1, 2))), "".join(word + " 1" + line for word in words))


class PromiseOneTest(unittest.TestCase):
    def test_told_to_a_book_of_nothing_it_makes_the_same_pairs(self):
        for calls in some_books(60):
            for s, t in DIRECTIONS:
                text = printed(last(*calls, dictionary(s, t)))
                self.assertEqual(printed(last(tell(s, t, text), dictionary(s, t))), text)
                turned = printed(last(*calls, dictionary(t, s)))
                self.assertEqual(printed(last(tell(s, t, text), dictionary(t, s))), with_equivalents(turned))

    def test_every_pair_is_counted_once(self):
        text = printed(last(*BOOK, dictionary(1, 2)))
        self.assertEqual(last(tell(1, 2, text)), [0, 1, 9, 6])

    def test_turned_round_twice_it_s_the_same_but_for_senses_without_equivalents(self):
        for calls in some_books(60):
            for s, t in DIRECTIONS:
                text = printed(last(*calls, dictionary(s, t)))
                turned = printed(last(tell(s, t, text), dictionary(t, s)))
                again = printed(last(tell(t, s, turned), dictionary(s, t)))
                self.assertEqual(again, with_equivalents(text))

    def test_the_books_have_pairs(self):
        found = [printed(last(*calls, dictionary(1, 2))) for calls in some_books(60)]
        self.assertTrue(any("," in text for text in found) and any("-" in text for text in found))


def with_equivalents(text):
    return "".join(line for line in text.splitlines(keepends=True) if not line.endswith(": -\n"))
