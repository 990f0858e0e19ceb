"""What follows from the pairs of a book: there and back, over, classes."""


def how_many_shared(one, other):
    return len(set(one) & set(other))


# Rows of how many equivalents a sense shares with x, and the sense.
def there_and_back(book, s, t, x):
    own = book.equivalents(s, t, x)
    found = []
    for z in book.senses(s):
        count = how_many_shared(own, book.equivalents(s, t, z))
        if count > 0:
            found.append((count, z))
    return found


def greatest_divisor(one, other):
    while other > 0:
        rest = one % other
        one = other
        other = rest
    return one


# Scores are brought to one lower number, since that compares them exactly.
def by_score(found):
    common = 1
    for scored in found:
        common = common * scored[2]
    return sorted(found, key=lambda row: (-(row[1] * common // row[2]), row[3]))


# Rows of how many are shared, the score's two numbers, and the sense of t.
def over_third(book, s, c, t, x):
    own = book.equivalents(s, c, x)
    found = []
    for y in book.senses(t):
        others = book.equivalents(t, c, y)
        count = how_many_shared(own, others)
        if count > 0:
            together = len(own) + len(others)
            divisor = greatest_divisor(2 * count, together)
            found.append((count, 2 * count // divisor, together // divisor, y))
    return by_score(found)


# The senses of t that are paired with some of these senses of s.
def reached(book, s, t, told):
    found = {}
    for x in told:
        for y in book.equivalents(s, t, x):
            found[y] = True
    return sorted(found)


# The senses of s and those of t that hang together with x, which has a pair.
def class_around(book, s, t, x):
    known = []
    firsts = [x]
    seconds = []
    while len(firsts) > len(known):
        known = firsts
        seconds = reached(book, s, t, known)
        firsts = reached(book, t, s, seconds)
    return (firsts, seconds)


def all_classes(book, s, t):
    placed = {}
    found = []
    for x in book.senses(s):
        if x not in placed and len(book.equivalents(s, t, x)) > 0:
            around = class_around(book, s, t, x)
            for z in around[0]:
                placed[z] = True
            found.append(around)
    return found


def is_complete(book, s, t, firsts, seconds):
    return all([book.equivalents(s, t, x) == seconds for x in firsts])
