"""The calls that only ask, but for those of fields."""

from acrosstongues.book import TONGUES
from acrosstongues.refusals import refuse_sense, refuse_tongues
from acrosstongues.relations import all_classes, all_lacking, gaps, how_many_pairs, is_complete
from acrosstongues.relations import over_third, paired_with_itself, there_and_back, twins, words_alike
from acrosstongues.rows import counted, counted_sense, counted_senses
from acrosstongues.texts import printed_line, read_sense

MOST_LACKING_TOLD = 100
TWO_TONGUES = ((1, 2), (1, 3), (2, 3))


def ask_dictionary(book, s, t):
    refusal = refuse_tongues([s, t])
    if refusal != 0:
        return [refusal]
    printed = []
    for x in book.senses(s):
        printed.extend(printed_line(x, book.equivalents(s, t, x)))
    return [0] + counted(printed)


def ask_senses(book, s):
    refusal = refuse_tongues([s])
    if refusal != 0:
        return [refusal]
    return [0] + counted_senses(book.senses(s))


def ask_equivalents(book, s, t, text):
    refusal = refuse_tongues([s, t]) or refuse_sense(book, s, text)
    if refusal != 0:
        return [refusal]
    return [0] + counted_senses(book.equivalents(s, t, read_sense(text)))


def ask_back(book, s, t, text):
    refusal = refuse_tongues([s, t]) or refuse_sense(book, s, text)
    if refusal != 0:
        return [refusal]
    found = there_and_back(book, s, t, read_sense(text))
    answer = [0, len(found)]
    for count, z in found:
        answer.append(count)
        answer.extend(counted_sense(z))
    return answer


def ask_classes(book, s, t):
    refusal = refuse_tongues([s, t])
    if refusal != 0:
        return [refusal]
    found = all_classes(book, s, t)
    answer = [0, len(found)]
    for firsts, seconds in found:
        answer.append(1 if is_complete(book, s, t, firsts, seconds) else 0)
        answer.extend(counted_senses(firsts))
        answer.extend(counted_senses(seconds))
    return answer


def ask_over(book, s, c, t, text):
    refusal = refuse_tongues([s, c, t]) or refuse_sense(book, s, text)
    if refusal != 0:
        return [refusal]
    x = read_sense(text)
    found = over_third(book, s, c, t, x)
    answer = [0, len(found)]
    for count, upper, lower, y in found:
        answer.extend([count, upper, lower])
        answer.append(1 if book.paired(s, t, x, y) else 0)
        answer.extend(counted_sense(y))
    return answer


def ask_lacking(book):
    found = all_lacking(book)
    answer = [0, len(found)]
    for s, t, x, y in found[:MOST_LACKING_TOLD]:
        answer.extend([s, t])
        answer.extend(counted_sense(x))
        answer.extend(counted_sense(y))
    return answer


def ask_gaps(book, s, t):
    refusal = refuse_tongues([s, t])
    if refusal != 0:
        return [refusal]
    return [0] + counted_senses(gaps(book, s, t))


def ask_twins(book, s, t):
    refusal = refuse_tongues([s, t])
    if refusal != 0:
        return [refusal]
    found = twins(book, s, t)
    answer = [0, len(found)]
    for group in found:
        answer.extend(counted_senses(group))
    return answer


def ask_alike(book, s, t):
    refusal = refuse_tongues([s, t])
    if refusal != 0:
        return [refusal]
    found = words_alike(book, s, t)
    answer = [0, len(found)]
    for word in found:
        answer.append(1 if paired_with_itself(book, s, t, word) else 0)
        answer.extend(counted(list(word)))
    return answer


def ask_counts(book):
    how_many_senses = [len(book.senses(s)) for s in TONGUES]
    return [0] + how_many_senses + [how_many_pairs(book, s, t) for s, t in TWO_TONGUES]
