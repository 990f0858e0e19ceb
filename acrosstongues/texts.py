"""Texts of senses and of dictionaries, as lists of bytes.

A sense is a tuple: its word (a tuple of bytes) and its number. Such tuples
compare just as senses are ordered, so sorted() needs no key.
"""

LINE_END = 10
BLANK = 32
COMMA = 44
DASH = 45
ZERO = 48
COLON = 58
FIRST_LETTER = 97
LAST_LETTER = 122
MOST_LETTERS = 12


def split_at(row, mark):
    parts = [[]]
    for byte in row:
        if byte == mark:
            parts.append([])
        else:
            parts[-1].append(byte)
    return parts


# The parts of a row that blanks stand between or around.
def unblanked(row):
    return [part for part in split_at(row, BLANK) if len(part) > 0]


def is_word(part):
    if len(part) > MOST_LETTERS:
        return False
    return all([FIRST_LETTER <= byte <= LAST_LETTER for byte in part])


def is_number(part):
    return len(part) == 1 and ZERO + 1 <= part[0] <= ZERO + 9


# The sense that a text names, or None if it is no sense's text.
def read_sense(row):
    parts = unblanked(row)
    if len(parts) == 0 or len(parts) > 2 or not is_word(parts[0]):
        return None
    word = tuple(parts[0])
    if len(parts) == 1:
        return (word, 1)
    if not is_number(parts[1]):
        return None
    return (word, parts[1][0] - ZERO)


def told_sense(x):
    return list(x[0]) + [BLANK, ZERO + x[1]]


# The senses whose texts commas part, or None if one of these is no sense's text.
def read_senses(row):
    found = []
    for part in split_at(row, COMMA):
        x = read_sense(part)
        if x is None:
            return None
        found.append(x)
    return found


# The senses behind a line's colon, or None if they are told wrongly.
def read_equivalents(row):
    if unblanked(row) == [[DASH]]:
        return []
    return read_senses(row)


# A sense and its equivalents, or None if the line is wrong.
def read_line(line):
    if COLON not in line:
        return None
    at = line.index(COLON)
    x = read_sense(line[:at])
    equivalents = read_equivalents(line[at + 1:])
    if x is None or equivalents is None:
        return None
    return (x, equivalents)


# The lines that say something, each with its number (for which the others count
# too) and what read_line makes of it.
def read_dictionary(text):
    entries = []
    for number, line in enumerate(split_at(text, LINE_END), start=1):
        if len(unblanked(line)) > 0:
            entries.append((number, read_line(line)))
    return entries


def printed_line(x, equivalents):
    line = told_sense(x) + [COLON]
    if len(equivalents) == 0:
        return line + [BLANK, DASH, LINE_END]
    for place, y in enumerate(equivalents):
        if place > 0:
            line.append(COMMA)
        line.append(BLANK)
        line.extend(told_sense(y))
    return line + [LINE_END]
