import unittest

from tests.helper import BOOK, GREATEST, ask, dictionary, equivalents, everything, last, many_words, pair, printed
from tests.helper import read_senses, senses, tell, told


def lines(text):
    return printed(last(tell(1, 2, text), dictionary(1, 2)))


class TellTest(unittest.TestCase):
    def test_counts_new_senses_of_both_tongues_and_new_pairs(self):
        first = tell(1, 2, "bank: bank, ufer\nbench: bank\nriver: -")
        self.assertEqual(ask(first), [[0, 1, 5, 3]])
        again = tell(1, 2, "bank: strand, ufer\nriver: ufer")
        self.assertEqual(ask(first, again, first)[1:], [[0, 1, 1, 2], [0, 1, 0, 0]])

    def test_what_is_told_is_there_in_both_directions(self):
        call = tell(3, 1, "b 2: a, c 9")
        self.assertEqual(last(call, equivalents(3, 1, "b 2")), [0] + told("a 1", "c 9"))
        self.assertEqual(last(call, equivalents(1, 3, "c 9")), [0] + told("b 2"))
        self.assertEqual(last(call, senses(2)), [0, 0])
        self.assertEqual(last(call, equivalents(1, 2, "a")), [0, 0])

    def test_pairs_of_the_turned_direction_are_not_new(self):
        self.assertEqual(last(tell(1, 2, "a: b"), tell(2, 1, "b: a")), [0, 1, 0, 0])

    def test_pairs_of_other_tongues_are_new(self):
        self.assertEqual(last(tell(1, 2, "a: b"), tell(1, 3, "a: b")), [0, 1, 1, 1])

    def test_a_sense_may_come_in_several_lines_an_equivalent_several_times(self):
        self.assertEqual(last(tell(1, 2, "a: b, b 1,b\na: b\na 1: c")), [0, 1, 3, 2])
        self.assertEqual(lines("a: b, b 1,b\na: -\na 1: c"), "a 1: b 1, c 1\n")

    def test_texts_and_lines_that_say_nothing(self):
        for text in ("", "\n", "   ", "\n\n  \n", " " * 3000):
            self.assertEqual(last(tell(1, 2, text)), [0, 1, 0, 0], text)
        self.assertEqual(lines("\n  \na: b\n   \n\nc: d\n\n"), "a 1: b 1\nc 1: d 1\n")

    def test_blanks_around_and_between_mean_nothing(self):
        self.assertEqual(lines("  a   2  :   b    3 ,c,  d 1  "), "a 2: b 3, c 1, d 1\n")
        self.assertEqual(lines("a:b,c"), "a 1: b 1, c 1\n")
        self.assertEqual(lines(" " * 30 + "a" + " " * 30 + "2 : b"), "a 2: b 1\n")

    def test_a_dash_by_itself(self):
        for text in ("a:-", "a: -", "a:   -   "):
            self.assertEqual(last(tell(1, 2, text)), [0, 1, 1, 0], text)
            self.assertEqual(lines(text), "a 1: -\n")

    def test_a_dash_takes_no_pair_away(self):
        self.assertEqual(lines("a: b\na: -"), "a 1: b 1\n")

    def test_wrong_lines(self):
        wrong = (
            "a", "a b", ":", ": b", " : b", "a:", "a:   ", "a: b,", "a: ,b", "a: b,,c", "a: ,",
            "a: -, b", "a: b, -", "a: -, -", "a: --", "a: - -", "a: -,", "-: b", "-",
            "a:: b", "a: b: c", "a: b :", "a:b:", "a: b c", "a 1 2: b", "a: b 1 2", "a 0: b", "a: b 0",
            "a 10: b", "a1: b", "a: b1", "A: b", "a: B", "a: b;c", "1: b", "a: 1", "a, b: c",
            "abcdefghijklm: b", "a: abcdefghijklm", "a: b.", "~", "a: ~", "a -1: b",
            "{: b", "a: `",
        )
        for text in wrong:
            self.assertEqual(last(tell(1, 2, text)), [0, 0, 1], text)
            self.assertEqual(last(tell(1, 2, "a: b\n" + text + "\nc: d")), [0, 0, 2], text)

    def test_lines_that_are_right_at_the_edges(self):
        for text in ("abcdefghijkl 9: zzzzzzzzzzzz 9", "a 1: b 9", "z: z"):
            self.assertEqual(last(tell(1, 2, text)), [0, 1, 2, 1], text)

    def test_the_first_wrong_line_is_told_with_empty_lines_counted(self):
        self.assertEqual(last(tell(1, 2, "\n\n  \na: b\n\nwrong\nwrong too")), [0, 0, 6])
        self.assertEqual(last(tell(1, 2, "wrong\na: b")), [0, 0, 1])
        self.assertEqual(last(tell(1, 2, "a: b\n" * 20 + "c:")), [0, 0, 21])

    def test_nothing_changes_by_a_text_with_a_wrong_line(self):
        before = ask(*BOOK, *everything())[len(BOOK):]
        after = ask(*BOOK, tell(1, 2, "new: newer\nbank: strand\nwrong"), *everything())[len(BOOK):]
        self.assertEqual(after[0], [0, 0, 3])
        self.assertEqual(after[1:], before)


class TellRefusedTest(unittest.TestCase):
    def test_tongues(self):
        for s, t in ((0, 1), (1, 0), (4, 1), (1, 4), (-1, 2), (2, -1), (1, 1), (2, 2), (3, 3),
                     (GREATEST, 1), (1, -GREATEST), (5, 5)):
            self.assertEqual(last(tell(s, t, "a: b")), [-2], (s, t))
        for s in (1, 2, 3):
            for t in (1, 2, 3):
                if s != t:
                    self.assertEqual(last(tell(s, t, "a: b")), [0, 1, 2, 1], (s, t))

    def test_length(self):
        self.assertEqual(last(tell(1, 2, "a: b" + " " * 2996)), [0, 1, 2, 1])
        self.assertEqual(last(tell(1, 2, "a: b" + " " * 2997)), [-2])
        self.assertEqual(last(tell(1, 2, "\n" * 3000)), [0, 1, 0, 0])
        self.assertEqual(last(tell(1, 2, "\n" * 3001)), [-2])
        self.assertEqual(last(tell(1, 2, " " * 3200)), [-2])

    def test_bytes(self):
        for byte in (0, 9, 11, 13, 31, 127, 128, 255, 256, -1, -10, -32, GREATEST, -GREATEST):
            self.assertEqual(last(tell(1, 2, [97, 58, 98, byte])), [-2], byte)
        self.assertEqual(last(tell(1, 2, [97, 58, 98, 10])), [0, 1, 2, 1])
        self.assertEqual(last(tell(1, 2, [97, 58, 98, 32])), [0, 1, 2, 1])
        self.assertEqual(last(tell(1, 2, [97, 58, 98, 126])), [0, 0, 1])
        self.assertEqual(last(tell(1, 2, [97, 58, 98, 33])), [0, 0, 1])

    def test_bytes_ahead_of_a_wrong_line(self):
        self.assertEqual(last(tell(1, 2, [97, 10, 31])), [-2])

    def test_tongues_ahead_of_a_wrong_line(self):
        self.assertEqual(last(tell(1, 1, "wrong")), [-2])

    def test_forty_senses_and_one_more(self):
        words = many_words(41)
        forty = tell(1, 2, "\n".join(word + ": -" for word in words[:40]))
        self.assertEqual(ask(forty), [[0, 1, 40, 0]])
        self.assertEqual(last(tell(1, 2, "\n".join(word + ": -" for word in words))), [-4])
        self.assertEqual(last(tell(1, 2, "a: " + ", ".join(words[:40]))), [0, 1, 41, 40])
        self.assertEqual(last(tell(1, 2, "a: " + ", ".join(words))), [-4])
        self.assertEqual(last(forty, tell(1, 2, words[40] + ": -")), [-4])
        self.assertEqual(last(forty, tell(2, 1, "a: " + words[40])), [-4])
        self.assertEqual(last(forty, tell(1, 2, words[0] + ": a\n" + words[0] + ": b")), [0, 1, 2, 2])

    def test_each_tongue_has_its_own_forty(self):
        forty = [tell(s, s % 3 + 1, "\n".join(word + ": -" for word in many_words(40))) for s in (1, 2, 3)]
        answered = ask(*forty, *[senses(s) for s in (1, 2, 3)])
        self.assertEqual(answered[:3], [[0, 1, 40, 0]] * 3)
        for answer in answered[3:]:
            self.assertEqual(read_senses(answer), [word + " 1" for word in many_words(40)])

    def test_nothing_changes_where_there_would_be_more_than_forty(self):
        words = many_words(41)
        for call in (tell(1, 2, words[0] + ": new, newer\n" + words[40] + ": new"),
                     tell(2, 1, "new: " + words[0] + "\nnewer: " + words[40])):
            start = [tell(1, 2, words[k] + ": b") for k in range(40)]
            before = ask(*start, *everything())[40:]
            after = ask(*start, call, *everything())[40:]
            self.assertEqual(after[0], [-4])
            self.assertEqual(after[1:], before)

    def test_a_wrong_line_ahead_of_too_many(self):
        words = many_words(41)
        self.assertEqual(last(tell(1, 2, "\n".join(word + ": -" for word in words) + "\nwrong")), [0, 0, 42])

    def test_nothing_changes_when_refused(self):
        before = ask(*BOOK, *everything())[len(BOOK):]
        for call in (tell(1, 1, "new: newer"), tell(1, 4, "new: newer"), tell(1, 2, "new: newer\n" + chr(127))):
            after = ask(*BOOK, call, *everything())[len(BOOK):]
            self.assertEqual(after, [[-2]] + before)

    def test_room_is_there_again_behind_a_drop(self):
        forty = [pair(1, 2, word, "b") for word in many_words(40)]
        self.assertEqual(last(*forty, pair(1, 2, "new", "b")), [-4])
        self.assertEqual(last(*forty, [4, 1, 3] + list(b"waa"), tell(1, 2, "new: b")), [0, 1, 1, 1])
