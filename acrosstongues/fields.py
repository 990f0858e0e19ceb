"""Fields: rows of senses of two tongues that all go with one another.

A field is a tuple: its senses of the first tongue and its senses of the second,
each a list in order.
"""

from acrosstongues.relations import bits_of, with_equivalents

MOST_OF_FEWEST = 4


# Whether y of t is paired with each of these senses of s.
def goes_with_all(book, s, t, told, y):
    for x in told:
        if not book.paired(s, t, x, y):
            return False
    return True


def what_goes_with_all(book, s, t, told):
    return [y for y in book.senses(t) if goes_with_all(book, s, t, told, y)]


# If nothing goes with all of these, the rows are all senses of s and nothing.
def closed_around(book, s, t, told):
    seconds = what_goes_with_all(book, s, t, told)
    return (what_goes_with_all(book, t, s, seconds), seconds)


# All rows of some of these, in the order of fields: those with the first one stand
# ahead of those without it, and so on with the second one.
def all_rows(told):
    rows = [[]]
    for x in reversed(told):
        rows = [[x] + row for row in rows] + rows
    return rows


def all_fields(book, s, t):
    found = []
    for firsts in all_rows(with_equivalents(book, s, t)):
        field = closed_around(book, s, t, firsts)
        if field[0] == firsts and len(firsts) > 0 and len(field[1]) > 0:
            found.append(field)
    return found


def lies_within(field, other):
    return len(field[0]) < len(other[0]) and all([x in other[0] for x in field[0]])


# For each field the places, from 0, of those within which it lies.
def places_around(fields):
    found = []
    for field in fields:
        found.append([place for place, other in enumerate(fields) if lies_within(field, other)])
    return found


# Rows of two places, from 1: the first field is right within the second.
def right_within(fields):
    around = places_around(fields)
    found = []
    for place in range(len(fields)):
        for other in around[place]:
            if not any([other in around[third] for third in around[place]]):
                found.append((place + 1, other + 1))
    return found


def pairs_of(field):
    found = []
    for x in field[0]:
        for y in field[1]:
            found.append((x, y))
    return found


# For each field the bits of its pairs.
def fields_as_bits(fields):
    met = {}
    for field in fields:
        for both in pairs_of(field):
            met[both] = True
    bits = bits_of(met)
    held = []
    for field in fields:
        held.append(sum([bits[both] for both in pairs_of(field)]))
    return held


# For each place the bits that some field has from there on.
def bits_ahead(held):
    ahead = []
    met = 0
    for bits in reversed(held):
        met = met | bits
        ahead.append(met)
    return list(reversed(ahead))


# The first row of so many places, from 0 and none below a start, whose fields have
# all missing bits; or None. It's given up as soon as the fields from a place on don't
# have them all together, since most rows needn't be tried so.
def first_row(held, ahead, start, missing, count):
    if count == 0:
        return [] if missing == 0 else None
    for place in range(start, len(held)):
        if missing | ahead[place] != ahead[place]:
            return None
        row = first_row(held, ahead, place + 1, missing - (missing & held[place]), count - 1)
        if row is not None:
            return [place] + row
    return None


# The places, from 1, of the fewest fields; or None if there would be too many.
def fewest(fields):
    held = fields_as_bits(fields)
    ahead = bits_ahead(held)
    missing = ahead[0] if len(ahead) > 0 else 0
    for count in range(MOST_OF_FEWEST + 1):
        row = first_row(held, ahead, 0, missing, count)
        if row is not None:
            return [place + 1 for place in row]
    return None
