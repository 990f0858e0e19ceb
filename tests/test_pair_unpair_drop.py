import unittest

from tests.helper import BOOK, ask, dictionary, drop, equivalents, everything, last, many_words, pair, printed
from tests.helper import read_senses, senses, tell, told, unpair


class PairTest(unittest.TestCase):
    def test_senses_needn_t_be_there(self):
        answered = ask(pair(1, 2, "a", "b 2"), senses(1), senses(2), equivalents(1, 2, "a"), equivalents(2, 1, "b 2"))
        self.assertEqual(answered, [[0], [0] + told("a 1"), [0] + told("b 2"), [0] + told("b 2"), [0] + told("a 1")])

    def test_senses_that_are_there(self):
        self.assertEqual(ask(tell(1, 2, "a: -\nc: b"), pair(1, 2, "a", "b"), dictionary(1, 2))[1:],
                         [[0], [0] + [len("a 1: b 1\nc 1: b 1\n")] + list(b"a 1: b 1\nc 1: b 1\n")])

    def test_the_same_word_in_both_tongues(self):
        self.assertEqual(ask(pair(2, 3, "a", "a"), equivalents(2, 3, "a"), senses(1))[1:], [[0] + told("a 1"), [0, 0]])

    def test_paired_already(self):
        self.assertEqual(ask(pair(1, 2, "a", "b"), pair(1, 2, "a", "b 1"), pair(2, 1, "b", "a"),
                             pair(1, 2, "b", "a"), pair(1, 3, "a", "b")), [[0], [-6], [-6], [0], [0]])

    def test_both_texts_are_asked_for_bytes_ahead_of_senses(self):
        self.assertEqual(last(pair(1, 2, "bank 0", "a" * 21)), [-2])
        self.assertEqual(last(pair(1, 2, "bank 0", [31])), [-2])
        self.assertEqual(last(pair(1, 2, [127], "bank 0")), [-2])
        self.assertEqual(last(pair(1, 2, "bank 0", "a")), [-5])
        self.assertEqual(last(pair(1, 2, "a", "bank 0")), [-5])
        self.assertEqual(last(pair(1, 2, "", "")), [-5])

    def test_forty_senses_and_one_more(self):
        words = many_words(41)
        firsts = [pair(1, 2, word, "b") for word in words]
        seconds = [pair(1, 2, "a", word) for word in words]
        for calls in (firsts, seconds):
            self.assertEqual(ask(*calls), [[0]] * 40 + [[-4]])
            before = ask(*calls[:40], *everything())[40:]
            after = ask(*calls, *everything())[40:]
            self.assertEqual(after, [[-4]] + before)

    def test_nothing_is_added_on_the_side_that_has_room(self):
        words = many_words(40)
        firsts = [pair(1, 2, word, "b") for word in words]
        self.assertEqual(ask(*firsts, pair(1, 2, "new", "newer"), senses(2))[40:], [[-4], [0] + told("b 1")])
        self.assertEqual(ask(*firsts, pair(2, 1, "newer", "new"), senses(2))[40:], [[-4], [0] + told("b 1")])
        self.assertEqual(ask(*firsts, pair(1, 2, words[0], "newer"), senses(2))[40:],
                         [[0], [0] + told("b 1", "newer 1")])

    def test_no_sense_s_text_ahead_of_too_many(self):
        firsts = [pair(1, 2, word, "b") for word in many_words(40)]
        self.assertEqual(last(*firsts, pair(1, 2, "new", "b 0")), [-5])
        self.assertEqual(last(*firsts, pair(1, 2, "waa", "b")), [-6])


class UnpairTest(unittest.TestCase):
    def test_the_pair_is_gone_and_the_senses_stay(self):
        answered = ask(tell(1, 2, "a: b, c\nd: b"), unpair(1, 2, "a", "b"), dictionary(1, 2), dictionary(2, 1))
        self.assertEqual(answered[1], [0])
        self.assertEqual(printed(answered[2]), "a 1: c 1\nd 1: b 1\n")
        self.assertEqual(printed(answered[3]), "b 1: d 1\nc 1: a 1\n")
        self.assertEqual(printed(last(pair(1, 2, "a", "b"), unpair(1, 2, "a", "b"), dictionary(1, 2))), "a 1: -\n")

    def test_either_direction(self):
        self.assertEqual(ask(pair(1, 2, "a", "b"), unpair(2, 1, "b", "a"), pair(1, 2, "a", "b"))[1:], [[0], [0]])

    def test_pairs_of_other_tongues_stay(self):
        self.assertEqual(last(pair(1, 2, "a", "b"), pair(1, 3, "a", "b"), unpair(1, 2, "a", "b"),
                              equivalents(1, 3, "a")), [0] + told("b 1"))

    def test_not_paired(self):
        self.assertEqual(last(tell(1, 2, "a: b\nc: -"), unpair(1, 2, "c", "b")), [-6])
        self.assertEqual(ask(pair(1, 2, "a", "b"), unpair(1, 2, "a", "b"), unpair(1, 2, "a", "b"))[1:], [[0], [-6]])
        self.assertEqual(last(pair(1, 2, "a", "b"), pair(1, 3, "c", "d"), unpair(1, 3, "a", "d")), [-6])

    def test_all_of_the_first_sense_ahead_of_the_second(self):
        firsts = (("nowhere", -3), ("bank 0", -5), ("a" * 21, -2), ([31], -2))
        for text, refusal in firsts:
            for second in ("bank", "nowhere", "bank 0", "a" * 21, [31]):
                self.assertEqual(last(*BOOK, unpair(1, 2, text, second)), [refusal], (text, second))
        for text, refusal in firsts:
            self.assertEqual(last(*BOOK, unpair(1, 2, "river", text)), [refusal], text)

    def test_nothing_changes_when_refused(self):
        before = ask(*BOOK, *everything())[len(BOOK):]
        for call in (unpair(1, 2, "river", "bank"), unpair(1, 2, "bank", "nowhere"), unpair(1, 1, "bank", "bank"),
                     pair(1, 2, "bank", "bank"), pair(1, 2, "bank 0", "bank"), drop(1, "nowhere")):
            after = ask(*BOOK, call, *everything())[len(BOOK):]
            self.assertTrue(after[0][0] < 0 and len(after[0]) == 1)
            self.assertEqual(after[1:], before)


class DropTest(unittest.TestCase):
    def test_gone_with_all_its_pairs(self):
        answered = ask(*BOOK, drop(2, "bank"), *everything(), drop(2, "bank"))[len(BOOK):]
        self.assertEqual(answered[0], [0])
        self.assertEqual(printed(answered[1]),
                         "bank 1: ufer 1\nbank 2: kasse 1\nbench 1: -\nriver 1: -\nshore 1: strand 1, ufer 1\n")
        self.assertEqual(printed(answered[2]),
                         "bank 1: banco 2\nbank 2: -\nbench 1: banco 1\nriver 1: -\nshore 1: orilla 1\n")
        self.assertEqual(printed(answered[3]), "kasse 1: -\nstrand 1: orilla 1, playa 1\nufer 1: orilla 1\n")
        self.assertEqual(read_senses(answered[5]), ["kasse 1", "strand 1", "ufer 1"])
        self.assertEqual(read_senses(answered[6]), ["banco 1", "banco 2", "orilla 1", "playa 1"])
        self.assertEqual(answered[7], [-3])

    def test_told_again_it_has_no_pairs(self):
        calls = [pair(1, 2, "a", "b"), pair(1, 3, "a", "c"), drop(1, "a"), tell(1, 2, "a: -")]
        self.assertEqual(ask(*calls, equivalents(1, 2, "a"), equivalents(1, 3, "a"), equivalents(2, 1, "b"))[3:],
                         [[0, 1, 1, 0], [0, 0], [0, 0], [0, 0]])

    def test_the_same_word_elsewhere_stays(self):
        calls = [tell(1, 2, "a: a\na 2: a"), drop(1, "a"), senses(1), senses(2), equivalents(2, 1, "a")]
        self.assertEqual(ask(*calls)[1:], [[0], [0] + told("a 2"), [0] + told("a 1"), [0] + told("a 2")])
