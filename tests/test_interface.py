import unittest

from acrosstongues.tongues import answers
from tests.helper import BOOK, alike, ask, back, classes, closed, counts, dictionary, drop, equivalents, everything
from tests.helper import fewest, fields, gaps, lacking, many_words, over, pair, senses, tell, twins, unpair, within

QUESTIONS = [
    dictionary(1, 2), senses(2), equivalents(1, 2, "bank"), back(1, 2, "bank"), classes(1, 3), over(1, 2, 3, "bank"),
    lacking(), fields(1, 2), closed(2, 3, "bank, ufer"), within(2, 1), fewest(1, 3), gaps(1, 2), twins(3, 2),
    alike(1, 2), counts(),
]

REFUSED = [
    tell(1, 1, "a: b"), pair(1, 2, "bank 0", [-1]), pair(1, 2, "bank", "bank"), unpair(1, 2, "", ""),
    unpair(1, 2, "river", "bank"), drop(1, ""), senses(0), equivalents(1, 2, "nowhere"), back(1, 1, "bank"),
    classes(4, 1), over(1, 1, 3, "bank"), fields(1, 4), closed(1, 2, "bank,"), within(0, 1), fewest(2, 2),
    gaps(-1, 2), twins(1, 5), alike(3, 3), dictionary(10, 1),
]

CHANGES = [tell(1, 2, "wrong"), pair(1, 2, "river", "fluss"), unpair(1, 2, "bank", "ufer"), drop(3, "playa")]

EVERY_CALL = list(BOOK) + QUESTIONS + REFUSED + CHANGES + QUESTIONS[1:7] + QUESTIONS[8:9] + QUESTIONS[11:]


def flat(calls):
    return [number for call in calls for number in call]


class InterfaceTest(unittest.TestCase):
    def test_each_answer_behind_how_many_numbers_it_has(self):
        self.assertEqual(answers(senses(1)), [2, 0, 0])
        self.assertEqual(answers(senses(0)), [1, -2])
        self.assertEqual(answers(flat([pair(1, 2, "a", "b"), senses(2), tell(1, 2, "a"), pair(1, 2, "a", "b")])),
                         [1, 0, 6, 0, 1, 3, 98, 32, 49, 3, 0, 0, 1, 1, -6])

    def test_calls_are_read_by_their_forms(self):
        self.assertEqual([answer[0] for answer in ask(*EVERY_CALL)],
                         [0] * (len(BOOK) + len(QUESTIONS))
                         + [-2, -2, -6, -5, -6, -5, -2, -3, -2, -2, -2, -2, -5, -2, -2, -2, -2, -2, -2]
                         + [0] * (len(CHANGES) + 11))

    def test_every_call_is_among_them(self):
        self.assertEqual({call[0] for call in EVERY_CALL}, set(range(19)))

    def test_rows_may_look_like_calls(self):
        self.assertEqual(ask(tell(1, 2, []), drop(1, [5, 1]), unpair(1, 2, [], [8, 1, 2]), senses(1),
                             closed(1, 2, [18]), closed(1, 2, []), lacking(), counts()),
                         [[0, 1, 0, 0], [-2], [-5], [0, 0], [-2], [-5], [0, 0], [0, 0, 0, 0, 0, 0, 0]])

    def test_a_refusal_is_alone_and_no_other_number_is_below_0(self):
        for answer in ask(*EVERY_CALL):
            self.assertTrue(answer[0] == 0 or len(answer) == 1)
            self.assertTrue(all(number >= 0 for number in answer[1:]))

    def test_what_is_answered_are_whole_numbers(self):
        answered = answers(flat(EVERY_CALL))
        self.assertIs(type(answered), list)
        self.assertEqual({type(number) for number in answered}, {int})

    def test_the_list_is_as_it_was(self):
        calls = flat(EVERY_CALL)
        copied = list(calls)
        answers(calls)
        self.assertEqual(calls, copied)

    def test_nothing_is_kept_from_one_time_to_the_next(self):
        calls = flat(EVERY_CALL)
        first = answers(calls)
        copied = list(first)
        first.clear()
        self.assertEqual(answers(calls), copied)
        self.assertEqual(answers(senses(1)), [2, 0, 0])

    def test_nothing_changes_by_a_question_or_a_refusal(self):
        before = ask(*BOOK, *everything(), counts())[len(BOOK):]
        for call in QUESTIONS + REFUSED:
            after = ask(*BOOK, call, *everything(), counts())[len(BOOK) + 1:]
            self.assertEqual(after, before, call)

    def test_a_question_asked_twice_is_answered_alike(self):
        for call in QUESTIONS:
            answered = ask(*BOOK, call, call)[len(BOOK):]
            self.assertEqual(answered[0], answered[1], call)

    def test_forty_of_lacking_and_ten_of_fields(self):
        words = ",".join(many_words(40))
        book = [tell(3, 1, "k: " + words), tell(3, 2, "k: " + words)]
        answered = ask(*book, *[lacking()] * 40, *[fewest(3, 1)] * 4, *[within(3, 1)] * 3, *[fields(1, 2)] * 3)
        self.assertEqual({answer[1] for answer in answered[2:42]}, {1600})
        self.assertEqual(answered[42:], [[0, 1, 1, 1]] * 4 + [[0, 0]] * 6)

    def test_a_hundred_calls(self):
        calls = [pair(1, 2, "a", "b"), unpair(1, 2, "a", "b")] * 50
        self.assertEqual(ask(*calls), [[0]] * 100)
