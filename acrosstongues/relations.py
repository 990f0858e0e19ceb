"""What follows from the pairs of a book, but for fields."""

# Each two tongues, with the third one between them.
OVER_THIRDS = ((1, 3, 2), (1, 2, 3), (2, 1, 3))


def with_equivalents(book, s, t):
    return [x for x in book.senses(s) if len(book.equivalents(s, t, x)) > 0]


def gaps(book, s, t):
    return [x for x in book.senses(s) if len(book.equivalents(s, t, x)) == 0]


def how_many_pairs(book, s, t):
    return sum([len(book.equivalents(s, t, x)) for x in book.senses(s)])


def how_many_shared(one, other):
    return len(set(one) & set(other))


# Rows of how many equivalents a sense shares with x, and the sense.
def there_and_back(book, s, t, x):
    own = book.equivalents(s, t, x)
    found = []
    for z in book.senses(s):
        count = how_many_shared(own, book.equivalents(s, t, z))
        if count > 0:
            found.append((count, z))
    return found


def greatest_divisor(one, other):
    while other > 0:
        rest = one % other
        one = other
        other = rest
    return one


# Scores are brought to one lower number, since that compares them exactly.
def by_score(found):
    common = 1
    for scored in found:
        common = common * scored[2]
    return sorted(found, key=lambda row: (-(row[1] * common // row[2]), row[3]))


# Rows of how many are shared, the score's two numbers, and the sense of t.
def over_third(book, s, c, t, x):
    own = book.equivalents(s, c, x)
    found = []
    for y in book.senses(t):
        others = book.equivalents(t, c, y)
        count = how_many_shared(own, others)
        if count > 0:
            together = len(own) + len(others)
            divisor = greatest_divisor(2 * count, together)
            found.append((count, 2 * count // divisor, together // divisor, y))
    return by_score(found)


# For each thing a bit of its own: rows of things are then compared as whole
# numbers, which is quick where there are many rows.
def bits_of(things):
    bits = {}
    bit = 1
    for thing in things:
        bits[thing] = bit
        bit = bit * 2
    return bits


# For each sense of s in order the bits of its equivalents in c.
def equivalents_as_bits(book, s, c):
    bits = bits_of(book.senses(c))
    found = {}
    for x in book.senses(s):
        found[x] = sum([bits[z] for z in book.equivalents(s, c, x)])
    return found


def lacking_over(book, s, c, t):
    firsts = equivalents_as_bits(book, s, c)
    seconds = equivalents_as_bits(book, t, c)
    found = []
    for x in firsts:
        for y in seconds:
            if firsts[x] & seconds[y] != 0 and not book.paired(s, t, x, y):
                found.append((s, t, x, y))
    return found


# Rows of two tongues and two senses.
def all_lacking(book):
    found = []
    for s, c, t in OVER_THIRDS:
        found.extend(lacking_over(book, s, c, t))
    return found


# The senses of t that are paired with some of these senses of s.
def reached(book, s, t, told):
    found = {}
    for x in told:
        for y in book.equivalents(s, t, x):
            found[y] = True
    return sorted(found)


# The senses of s and those of t that hang together with x, which has a pair.
def class_around(book, s, t, x):
    known = []
    firsts = [x]
    seconds = []
    while len(firsts) > len(known):
        known = firsts
        seconds = reached(book, s, t, known)
        firsts = reached(book, t, s, seconds)
    return (firsts, seconds)


def all_classes(book, s, t):
    placed = {}
    found = []
    for x in with_equivalents(book, s, t):
        if x not in placed:
            around = class_around(book, s, t, x)
            for z in around[0]:
                placed[z] = True
            found.append(around)
    return found


def is_complete(book, s, t, firsts, seconds):
    return all([book.equivalents(s, t, x) == seconds for x in firsts])


# Groups in the order of their first senses, since a dict keeps the order in which
# keys came.
def twins(book, s, t):
    groups = {}
    for x in with_equivalents(book, s, t):
        groups.setdefault(tuple(book.equivalents(s, t, x)), []).append(x)
    return [group for group in groups.values() if len(group) > 1]


def words_alike(book, s, t):
    return sorted(set([x[0] for x in book.senses(s)]) & set([y[0] for y in book.senses(t)]))


# Whether some sense of a word in s is paired with some sense of it in t.
def paired_with_itself(book, s, t, word):
    for x in book.senses(s):
        if x[0] == word and word in [y[0] for y in book.equivalents(s, t, x)]:
            return True
    return False
