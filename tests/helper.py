"""Calls written as texts, and their answers taken apart."""

import random

from acrosstongues.tongues import answers

GREATEST = 10 ** 18


def numbers(text):
    return list(text.encode("ascii")) if isinstance(text, str) else list(text)


def counted(text):
    row = numbers(text)
    return [len(row)] + row


def tell(s, t, text):
    return [0, s, t] + counted(text)


def dictionary(s, t):
    return [1, s, t]


def pair(s, t, x, y):
    return [2, s, t] + counted(x) + counted(y)


def unpair(s, t, x, y):
    return [3, s, t] + counted(x) + counted(y)


def drop(s, x):
    return [4, s] + counted(x)


def senses(s):
    return [5, s]


def equivalents(s, t, x):
    return [6, s, t] + counted(x)


def back(s, t, x):
    return [7, s, t] + counted(x)


def classes(s, t):
    return [8, s, t]


def over(s, c, t, x):
    return [9, s, c, t] + counted(x)


def lacking():
    return [10]


def fields(s, t):
    return [11, s, t]


def closed(s, t, texts):
    return [12, s, t] + counted(texts)


def within(s, t):
    return [13, s, t]


def fewest(s, t):
    return [14, s, t]


def gaps(s, t):
    return [15, s, t]


def twins(s, t):
    return [16, s, t]


def alike(s, t):
    return [17, s, t]


def counts():
    return [18]


def ask(*calls):
    """One answer, as a list, for each call on one new book."""
    flat = answers([number for call in calls for number in call])
    found = []
    at = 0
    while at < len(flat):
        found.append(flat[at + 1:at + 1 + flat[at]])
        at += 1 + flat[at]
    assert at == len(flat) and len(found) == len(calls)
    return found


def last(*calls):
    return ask(*calls)[-1]


def told(*texts):
    """Senses as they are answered."""
    row = [len(texts)]
    for text in texts:
        row += counted(text)
    return row


def printed(answer):
    """The text of an answer of dictionary."""
    assert answer[0] == 0 and answer[1] == len(answer) - 2
    return bytes(answer[2:]).decode("ascii")


class Reader:
    """Takes an answer's numbers one behind another."""

    def __init__(self, answer):
        self.answer = answer
        self.at = 0

    def number(self):
        self.at += 1
        return self.answer[self.at - 1]

    def sense(self):
        size = self.number()
        self.at += size
        return bytes(self.answer[self.at - size:self.at]).decode("ascii")

    def senses(self):
        return [self.sense() for place in range(self.number())]

    def ended(self):
        return self.at == len(self.answer)


def read_senses(answer):
    reader = Reader(answer)
    assert reader.number() == 0
    found = reader.senses()
    assert reader.ended()
    return found


def read_back(answer):
    """A dict from senses to how many they share."""
    reader = Reader(answer)
    assert reader.number() == 0
    found = {}
    for place in range(reader.number()):
        count = reader.number()
        found[reader.sense()] = count
    assert reader.ended()
    return found


def read_classes(answer):
    reader = Reader(answer)
    assert reader.number() == 0
    found = []
    for place in range(reader.number()):
        complete = reader.number()
        firsts = reader.senses()
        found.append((complete, firsts, reader.senses()))
    assert reader.ended()
    return found


def read_over(answer):
    reader = Reader(answer)
    assert reader.number() == 0
    found = []
    for place in range(reader.number()):
        row = [reader.number() for number in range(4)]
        found.append(tuple(row) + (reader.sense(),))
    assert reader.ended()
    return found


def read_lacking(answer):
    """How many there are, and those that are told."""
    reader = Reader(answer)
    assert reader.number() == 0
    count = reader.number()
    found = []
    while not reader.ended():
        tongues = (reader.number(), reader.number())
        found.append(tongues + (reader.sense(), reader.sense()))
    return count, found


def read_fields(answer):
    reader = Reader(answer)
    assert reader.number() == 0
    found = [(reader.senses(), reader.senses()) for place in range(reader.number())]
    assert reader.ended()
    return found


def read_closed(answer):
    reader = Reader(answer)
    assert reader.number() == 0
    found = (reader.senses(), reader.senses())
    assert reader.ended()
    return found


def read_within(answer):
    reader = Reader(answer)
    assert reader.number() == 0
    found = [(reader.number(), reader.number()) for place in range(reader.number())]
    assert reader.ended()
    return found


def read_twins(answer):
    reader = Reader(answer)
    assert reader.number() == 0
    found = [reader.senses() for place in range(reader.number())]
    assert reader.ended()
    return found


def read_alike(answer):
    reader = Reader(answer)
    assert reader.number() == 0
    found = [(reader.number(), reader.sense()) for place in range(reader.number())]
    assert reader.ended()
    return found


def links(calls, s, t):
    """A dict from the senses of s, in order, to their equivalents in t."""
    names = read_senses(last(*calls, senses(s)))
    answered = ask(*calls, *[equivalents(s, t, x) for x in names])[len(calls):]
    return {x: read_senses(answer) for x, answer in zip(names, answered)}


BOOK = (
    tell(1, 2, "bank: bank, ufer\nbench: bank\nshore: ufer, strand\nriver: -\nbank 2: kasse"),
    tell(1, 3, "bank: banco 2\nbench: banco\nshore: orilla"),
    tell(2, 3, "bank: banco, banco 2\nufer: orilla\nstrand: orilla, playa"),
)


def everything():
    """Calls that show all of a book."""
    return [dictionary(s, t) for s, t in ((1, 2), (1, 3), (2, 3))] + [senses(s) for s in (1, 2, 3)]


def many_words(count):
    """Words in order."""
    letters = "abcdefghij"
    return ["w" + letters[k // 10] + letters[k % 10] for k in range(count)]


def some_books(count):
    """Calls that make books of many shapes, the same ones each time."""
    source = random.Random(20)
    books = []
    for place in range(count):
        calls = []
        size = source.randint(1, 6)
        for step in range(source.randint(0, 24)):
            s, t = source.sample((1, 2, 3), 2)
            x, y = [f"{source.choice('abcdef'[:size])} {source.randint(1, 2)}" for end in range(2)]
            calls.append(source.choice((pair, pair, pair, unpair))(s, t, x, y))
            if source.randint(0, 9) == 0:
                calls.append(tell(s, t, x + ": -"))
            if source.randint(0, 12) == 0:
                calls.append(drop(t, y))
        books.append(calls)
    return books
