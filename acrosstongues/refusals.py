"""Why a call is refused. Each check answers the refusal, or 0 if there is none.

So checks are joined by "or": the first that refuses is told, and those behind
it, which may rely on it, are not made.
"""

from acrosstongues.book import TONGUES
from acrosstongues.texts import LINE_END, read_sense

WRONG_FORM = -2
NO_SUCH_SENSE = -3
TOO_MANY = -4
NO_SENSE_TEXT = -5
WRONG_PAIR = -6

FIRST_BYTE = 32
LAST_BYTE = 126
MOST_OF_SENSE = 20
MOST_OF_DICTIONARY = 3000


def refuse_tongues(told):
    if len(set(told)) < len(told):
        return WRONG_FORM
    for s in told:
        if s not in TONGUES:
            return WRONG_FORM
    return 0


def refuse_bytes(text, most):
    if len(text) > most:
        return WRONG_FORM
    for byte in text:
        if byte != LINE_END and not FIRST_BYTE <= byte <= LAST_BYTE:
            return WRONG_FORM
    return 0


def refuse_sense_bytes(text):
    return refuse_bytes(text, MOST_OF_SENSE)


def refuse_sense_text(text):
    return NO_SENSE_TEXT if read_sense(text) is None else 0


# All that a text of a sense that must be there can be refused for.
def refuse_sense(book, s, text):
    refusal = refuse_sense_bytes(text) or refuse_sense_text(text)
    if refusal == 0 and not book.has_sense(s, read_sense(text)):
        return NO_SUCH_SENSE
    return refusal
