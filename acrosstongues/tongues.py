"""The calls on one new book, read from a list of whole numbers and answered."""

from acrosstongues.book import Book
from acrosstongues.changes import drop, pair, tell, unpair
from acrosstongues.questions import ask_back, ask_classes, ask_dictionary, ask_equivalents, ask_over, ask_senses

TELL = 0
DICTIONARY = 1
PAIR = 2
UNPAIR = 3
DROP = 4
SENSES = 5
EQUIVALENTS = 6
BACK = 7
CLASSES = 8

# By a call's place: how many numbers it has, and how many rows behind them.
FORMS = ((2, 1), (2, 0), (2, 2), (2, 2), (1, 1), (1, 0), (2, 1), (2, 1), (2, 0), (3, 1))


# Each call as a list: its place, its numbers, then its rows as lists.
def read_calls(numbers):
    found = []
    at = 0
    while at < len(numbers):
        form = FORMS[numbers[at]]
        behind = at + 1 + form[0]
        call = numbers[at:behind]
        at = behind
        while len(call) < 1 + form[0] + form[1]:
            behind = at + 1 + numbers[at]
            call.append(numbers[at + 1:behind])
            at = behind
        found.append(call)
    return found


def answer_change(book, call):
    if call[0] == TELL:
        return tell(book, call[1], call[2], call[3])
    if call[0] == PAIR:
        return pair(book, call[1], call[2], call[3], call[4])
    if call[0] == UNPAIR:
        return unpair(book, call[1], call[2], call[3], call[4])
    # Drop alone is left.
    return drop(book, call[1], call[2])


def answer_question(book, call):
    if call[0] == DICTIONARY:
        return ask_dictionary(book, call[1], call[2])
    if call[0] == SENSES:
        return ask_senses(book, call[1])
    if call[0] == EQUIVALENTS:
        return ask_equivalents(book, call[1], call[2], call[3])
    if call[0] == BACK:
        return ask_back(book, call[1], call[2], call[3])
    if call[0] == CLASSES:
        return ask_classes(book, call[1], call[2])
    # Over alone is left.
    return ask_over(book, call[1], call[2], call[3], call[4])


def answers(calls):
    book = Book()
    answered = []
    for call in read_calls(calls):
        if call[0] in (TELL, PAIR, UNPAIR, DROP):
            answer = answer_change(book, call)
        else:
            answer = answer_question(book, call)
        answered.append(len(answer))
        answered.extend(answer)
    return answered
