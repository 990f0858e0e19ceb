"""The calls that ask for fields: fields, closed, within, fewest."""

from acrosstongues.fields import all_fields, closed_around, fewest, right_within
from acrosstongues.refusals import refuse_fields, refuse_senses, refuse_tongues
from acrosstongues.rows import counted, counted_senses
from acrosstongues.texts import read_senses


def told_field(field):
    return counted_senses(field[0]) + counted_senses(field[1])


def ask_fields(book, s, t):
    refusal = refuse_fields(book, s, t)
    if refusal != 0:
        return [refusal]
    found = all_fields(book, s, t)
    answer = [0, len(found)]
    for field in found:
        answer.extend(told_field(field))
    return answer


def ask_closed(book, s, t, text):
    refusal = refuse_tongues([s, t]) or refuse_senses(book, s, text)
    if refusal != 0:
        return [refusal]
    return [0] + told_field(closed_around(book, s, t, read_senses(text)))


def ask_within(book, s, t):
    refusal = refuse_fields(book, s, t)
    if refusal != 0:
        return [refusal]
    found = right_within(all_fields(book, s, t))
    answer = [0, len(found)]
    for places in found:
        answer.extend(places)
    return answer


def ask_fewest(book, s, t):
    refusal = refuse_fields(book, s, t)
    if refusal != 0:
        return [refusal]
    places = fewest(all_fields(book, s, t))
    return [0, 0] if places is None else [0, 1] + counted(places)
