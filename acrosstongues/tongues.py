"""The calls on one new book, read from a list of whole numbers and answered."""

from acrosstongues.book import Book
from acrosstongues.changes import drop, pair, tell, unpair
from acrosstongues.field_questions import ask_closed, ask_fewest, ask_fields, ask_within
from acrosstongues.questions import ask_alike, ask_back, ask_classes, ask_counts, ask_dictionary, ask_equivalents
from acrosstongues.questions import ask_gaps, ask_lacking, ask_over, ask_senses, ask_twins

TELL = 0
DICTIONARY = 1
PAIR = 2
UNPAIR = 3
DROP = 4
SENSES = 5
EQUIVALENTS = 6
BACK = 7
CLASSES = 8
OVER = 9
LACKING = 10
FIELDS = 11
CLOSED = 12
WITHIN = 13
FEWEST = 14
GAPS = 15
TWINS = 16
COUNTS = 18

# By a call's place: how many numbers it has, and how many rows behind them.
FORMS = (
    (2, 1), (2, 0), (2, 2), (2, 2), (1, 1), (1, 0), (2, 1), (2, 1), (2, 0), (3, 1),
    (0, 0), (2, 0), (2, 1), (2, 0), (2, 0), (2, 0), (2, 0), (2, 0), (0, 0),
)


# Each call as a list: its place, its numbers, then its rows as lists.
def read_calls(numbers):
    found = []
    at = 0
    while at < len(numbers):
        form = FORMS[numbers[at]]
        behind = at + 1 + form[0]
        call = numbers[at:behind]
        at = behind
        while len(call) < 1 + form[0] + form[1]:
            behind = at + 1 + numbers[at]
            call.append(numbers[at + 1:behind])
            at = behind
        found.append(call)
    return found


def answer_change(book, call):
    if call[0] == TELL:
        return tell(book, call[1], call[2], call[3])
    if call[0] == PAIR:
        return pair(book, call[1], call[2], call[3], call[4])
    if call[0] == UNPAIR:
        return unpair(book, call[1], call[2], call[3], call[4])
    # Drop alone is left.
    return drop(book, call[1], call[2])


def answer_of_text(book, call):
    if call[0] == EQUIVALENTS:
        return ask_equivalents(book, call[1], call[2], call[3])
    if call[0] == BACK:
        return ask_back(book, call[1], call[2], call[3])
    if call[0] == CLOSED:
        return ask_closed(book, call[1], call[2], call[3])
    # Over alone is left.
    return ask_over(book, call[1], call[2], call[3], call[4])


def answer_of_two_tongues(book, call):
    if call[0] == DICTIONARY:
        return ask_dictionary(book, call[1], call[2])
    if call[0] == CLASSES:
        return ask_classes(book, call[1], call[2])
    if call[0] == FIELDS:
        return ask_fields(book, call[1], call[2])
    if call[0] == WITHIN:
        return ask_within(book, call[1], call[2])
    if call[0] == FEWEST:
        return ask_fewest(book, call[1], call[2])
    if call[0] == GAPS:
        return ask_gaps(book, call[1], call[2])
    if call[0] == TWINS:
        return ask_twins(book, call[1], call[2])
    # Alike alone is left.
    return ask_alike(book, call[1], call[2])


def answer_call(book, call):
    if call[0] in (TELL, PAIR, UNPAIR, DROP):
        return answer_change(book, call)
    if call[0] in (EQUIVALENTS, BACK, OVER, CLOSED):
        return answer_of_text(book, call)
    if call[0] == SENSES:
        return ask_senses(book, call[1])
    if call[0] == LACKING:
        return ask_lacking(book)
    if call[0] == COUNTS:
        return ask_counts(book)
    return answer_of_two_tongues(book, call)


def answers(calls):
    book = Book()
    answered = []
    for call in read_calls(calls):
        answer = answer_call(book, call)
        answered.append(len(answer))
        answered.extend(answer)
    return answered
