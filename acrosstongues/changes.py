"""The calls that change a book: tell, pair, unpair, drop."""

from acrosstongues.refusals import MOST_OF_DICTIONARY, TOO_MANY, WRONG_PAIR
from acrosstongues.refusals import refuse_bytes, refuse_sense, refuse_sense_bytes, refuse_sense_text, refuse_tongues
from acrosstongues.texts import read_dictionary, read_sense


def tell(book, s, t, text):
    refusal = refuse_tongues([s, t]) or refuse_bytes(text, MOST_OF_DICTIONARY)
    if refusal != 0:
        return [refusal]
    entries = []
    for number, entry in read_dictionary(text):
        if entry is None:
            return [0, 0, number]
        entries.append(entry)
    return tell_entries(book, s, t, entries)


def tell_entries(book, s, t, entries):
    firsts = []
    seconds = []
    for x, equivalents in entries:
        firsts.append(x)
        seconds.extend(equivalents)
    if book.overfull_with(s, firsts) or book.overfull_with(t, seconds):
        return [TOO_MANY]
    new_senses = add_senses(book, s, firsts) + add_senses(book, t, seconds)
    new_pairs = 0
    for x, equivalents in entries:
        for y in equivalents:
            new_pairs = new_pairs + book.add_pair(s, t, x, y)
    return [0, 1, new_senses, new_pairs]


# Answers how many of them are new.
def add_senses(book, s, told):
    new = 0
    for x in told:
        new = new + book.add_sense(s, x)
    return new


def refuse_to_pair(s, t, first, second):
    refusal = refuse_tongues([s, t]) or refuse_sense_bytes(first) or refuse_sense_bytes(second)
    return refusal or refuse_sense_text(first) or refuse_sense_text(second)


def pair(book, s, t, first, second):
    refusal = refuse_to_pair(s, t, first, second)
    if refusal != 0:
        return [refusal]
    x = read_sense(first)
    y = read_sense(second)
    if book.paired(s, t, x, y):
        return [WRONG_PAIR]
    if book.overfull_with(s, [x]) or book.overfull_with(t, [y]):
        return [TOO_MANY]
    book.add_sense(s, x)
    book.add_sense(t, y)
    book.add_pair(s, t, x, y)
    return [0]


def unpair(book, s, t, first, second):
    refusal = refuse_tongues([s, t]) or refuse_sense(book, s, first) or refuse_sense(book, t, second)
    if refusal != 0:
        return [refusal]
    x = read_sense(first)
    y = read_sense(second)
    if not book.paired(s, t, x, y):
        return [WRONG_PAIR]
    book.part(s, t, x, y)
    return [0]


def drop(book, s, text):
    refusal = refuse_tongues([s]) or refuse_sense(book, s, text)
    if refusal != 0:
        return [refusal]
    book.drop(s, read_sense(text))
    return [0]
