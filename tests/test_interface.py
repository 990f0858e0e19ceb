import unittest

from acrosstongues.tongues import answers
from tests.helper import BOOK, ask, back, classes, dictionary, drop, equivalents, over, pair, senses, tell, unpair

EVERY_CALL = list(BOOK) + [
    dictionary(1, 2), pair(1, 2, "river", "fluss"), unpair(1, 2, "bank", "ufer"), drop(3, "playa"), senses(2),
    equivalents(1, 2, "bank"), back(1, 2, "bank"), classes(1, 3), over(1, 2, 3, "bank"),
    tell(1, 1, "a: b"), tell(1, 2, "wrong"), pair(1, 2, "bank 0", [-1]), drop(1, ""), unpair(1, 2, "", ""), senses(0),
]


def flat(calls):
    return [number for call in calls for number in call]


class InterfaceTest(unittest.TestCase):
    def test_each_answer_behind_how_many_numbers_it_has(self):
        self.assertEqual(answers(senses(1)), [2, 0, 0])
        self.assertEqual(answers(senses(0)), [1, -2])
        self.assertEqual(answers(flat([pair(1, 2, "a", "b"), senses(2), tell(1, 2, "a"), pair(1, 2, "a", "b")])),
                         [1, 0, 6, 0, 1, 3, 98, 32, 49, 3, 0, 0, 1, 1, -6])

    def test_calls_are_read_by_their_forms(self):
        self.assertEqual([answer[0] for answer in ask(*EVERY_CALL)],
                         [0] * 12 + [-2, 0, -2, -5, -5, -2])

    def test_rows_may_look_like_calls(self):
        self.assertEqual(ask(tell(1, 2, []), drop(1, [5, 1]), unpair(1, 2, [], [8, 1, 2]), senses(1)),
                         [[0, 1, 0, 0], [-2], [-5], [0, 0]])

    def test_a_refusal_is_alone_and_no_other_number_is_below_0(self):
        for answer in ask(*EVERY_CALL):
            self.assertTrue(answer[0] == 0 or len(answer) == 1)
            self.assertTrue(all(number >= 0 for number in answer[1:]))

    def test_what_is_answered_are_whole_numbers(self):
        answered = answers(flat(EVERY_CALL))
        self.assertIs(type(answered), list)
        self.assertEqual({type(number) for number in answered}, {int})

    def test_the_list_is_as_it_was(self):
        calls = flat(EVERY_CALL)
        copied = list(calls)
        answers(calls)
        self.assertEqual(calls, copied)

    def test_nothing_is_kept_from_one_time_to_the_next(self):
        calls = flat(EVERY_CALL)
        first = answers(calls)
        copied = list(first)
        first.clear()
        self.assertEqual(answers(calls), copied)
        self.assertEqual(answers(senses(1)), [2, 0, 0])

    def test_a_hundred_calls(self):
        calls = [pair(1, 2, "a", "b"), unpair(1, 2, "a", "b")] * 50
        self.assertEqual(ask(*calls), [[0]] * 100)
