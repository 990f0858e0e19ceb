"""Why a call is refused. Each check answers the refusal, or 0 if there is none.

So checks are joined by "or": the first that refuses is told, and those behind
it, which may rely on it, are not made.
"""

from acrosstongues.book import TONGUES
from acrosstongues.relations import with_equivalents
from acrosstongues.texts import LINE_END, read_sense, read_senses

WRONG_FORM = -2
NO_SUCH_SENSE = -3
TOO_MANY = -4
NO_SENSE_TEXT = -5
WRONG_PAIR = -6
TOO_MANY_FOR_FIELDS = -7

FIRST_BYTE = 32
LAST_BYTE = 126
MOST_OF_SENSE = 20
MOST_OF_SENSES = 240
MOST_OF_DICTIONARY = 3000
MOST_FOR_FIELDS = 6


def refuse_tongues(told):
    if len(set(told)) < len(told):
        return WRONG_FORM
    for s in told:
        if s not in TONGUES:
            return WRONG_FORM
    return 0


def refuse_bytes(text, most):
    if len(text) > most:
        return WRONG_FORM
    for byte in text:
        if byte != LINE_END and not FIRST_BYTE <= byte <= LAST_BYTE:
            return WRONG_FORM
    return 0


def refuse_sense_bytes(text):
    return refuse_bytes(text, MOST_OF_SENSE)


def refuse_sense_text(text):
    return NO_SENSE_TEXT if read_sense(text) is None else 0


# All that a text of a sense that must be there can be refused for.
def refuse_sense(book, s, text):
    refusal = refuse_sense_bytes(text) or refuse_sense_text(text)
    if refusal == 0 and not book.has_sense(s, read_sense(text)):
        return NO_SUCH_SENSE
    return refusal


# The same of a text of several senses, each of which is asked for its form ahead
# of asking whether any is there.
def refuse_senses(book, s, text):
    refusal = refuse_bytes(text, MOST_OF_SENSES)
    if refusal != 0:
        return refusal
    told = read_senses(text)
    if told is None:
        return NO_SENSE_TEXT
    return 0 if all([book.has_sense(s, x) for x in told]) else NO_SUCH_SENSE


def refuse_fields(book, s, t):
    refusal = refuse_tongues([s, t])
    if refusal == 0 and len(with_equivalents(book, s, t)) > MOST_FOR_FIELDS:
        return TOO_MANY_FOR_FIELDS
    return refusal
