"""The calls that only ask: dictionary, senses, equivalents, back, classes, over."""

from acrosstongues.refusals import refuse_sense, refuse_tongues
from acrosstongues.relations import all_classes, is_complete, over_third, there_and_back
from acrosstongues.texts import printed_line, read_sense, told_sense


def counted(row):
    return [len(row)] + row


def counted_sense(x):
    return counted(told_sense(x))


def counted_senses(told):
    answer = [len(told)]
    for x in told:
        answer.extend(counted_sense(x))
    return answer


def ask_dictionary(book, s, t):
    refusal = refuse_tongues([s, t])
    if refusal != 0:
        return [refusal]
    printed = []
    for x in book.senses(s):
        printed.extend(printed_line(x, book.equivalents(s, t, x)))
    return [0] + counted(printed)


def ask_senses(book, s):
    refusal = refuse_tongues([s])
    if refusal != 0:
        return [refusal]
    return [0] + counted_senses(book.senses(s))


def ask_equivalents(book, s, t, text):
    refusal = refuse_tongues([s, t]) or refuse_sense(book, s, text)
    if refusal != 0:
        return [refusal]
    return [0] + counted_senses(book.equivalents(s, t, read_sense(text)))


def ask_back(book, s, t, text):
    refusal = refuse_tongues([s, t]) or refuse_sense(book, s, text)
    if refusal != 0:
        return [refusal]
    found = there_and_back(book, s, t, read_sense(text))
    answer = [0, len(found)]
    for count, z in found:
        answer.append(count)
        answer.extend(counted_sense(z))
    return answer


def ask_classes(book, s, t):
    refusal = refuse_tongues([s, t])
    if refusal != 0:
        return [refusal]
    found = all_classes(book, s, t)
    answer = [0, len(found)]
    for firsts, seconds in found:
        answer.append(1 if is_complete(book, s, t, firsts, seconds) else 0)
        answer.extend(counted_senses(firsts))
        answer.extend(counted_senses(seconds))
    return answer


def ask_over(book, s, c, t, text):
    refusal = refuse_tongues([s, c, t]) or refuse_sense(book, s, text)
    if refusal != 0:
        return [refusal]
    x = read_sense(text)
    found = over_third(book, s, c, t, x)
    answer = [0, len(found)]
    for count, upper, lower, y in found:
        answer.extend([count, upper, lower])
        answer.append(1 if book.paired(s, t, x, y) else 0)
        answer.extend(counted_sense(y))
    return answer
