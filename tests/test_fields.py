import itertools
import unittest

from tests.helper import BOOK, closed, fewest, fields, last, links, many_words, pair, read_fields
from tests.helper import read_senses, read_within, senses, some_books, tell, told, within

# Its fields: a b with p, a c with q, a with p q, c with q r.
THREE = tell(1, 2, "a: p, q\nb: p\nc: q, r")

# Each of six senses goes with all but one of six, and with one for all.
SIX = tell(1, 2, "\n".join(x + ": all, " + ", ".join("y" + y for y in "abcdef" if x != y) for x in "abcdef"))

ASKS = (fields, within, fewest)


def found(*calls, tongues=(1, 2)):
    return read_fields(last(*calls, fields(*tongues)))


def names(letters):
    return [letter + " 1" for letter in letters]


def in_words(calls, s, t):
    """The fields as the words tell them, or None if they aren't told."""
    pairs = links(calls, s, t)
    firsts = [x for x in pairs if pairs[x]]
    if len(firsts) > 6:
        return None
    rows = []
    for count in range(1, len(firsts) + 1):
        for row in itertools.combinations(firsts, count):
            common = set.intersection(*[set(pairs[x]) for x in row])
            others = [x for x in pairs if x not in row and common <= set(pairs[x])]
            if common and not others:
                rows.append((list(row), sorted(common)))
    return sorted(rows, key=lambda row: [x not in row[0] for x in firsts])


def right_within(rows):
    """Rows of two places, as the words tell them."""
    firsts = [set(row[0]) for row in rows]
    return [(i + 1, j + 1) for i, one in enumerate(firsts) for j, other in enumerate(firsts)
            if one < other and not any(one < third < other for third in firsts)]


def fewest_in_words(rows):
    """The answer, as the words tell it."""
    held = [{(x, y) for x in row[0] for y in row[1]} for row in rows]
    wanted = set().union(*held)
    for count in range(5):
        for places in itertools.combinations(range(len(rows)), count):
            if set().union(*[held[place] for place in places]) == wanted:
                return [0, 1, count] + [place + 1 for place in places]
    return [0, 0]


class FieldsTest(unittest.TestCase):
    def test_senses_of_the_first_tongue_then_of_the_second(self):
        self.assertEqual(last(tell(1, 2, "a: p, q"), fields(1, 2)), [0, 1] + told("a 1") + told("p 1", "q 1"))

    def test_fields_with_senses_in_common(self):
        self.assertEqual(found(THREE), [(names("ab"), names("p")), (names("ac"), names("q")),
                                        (names("a"), names("pq")), (names("c"), names("qr"))])

    def test_turned_round(self):
        self.assertEqual(found(THREE, tongues=(2, 1)), [(names("pq"), names("a")), (names("p"), names("ab")),
                                                        (names("qr"), names("c")), (names("q"), names("ac"))])

    def test_of_nothing(self):
        self.assertEqual(last(fields(1, 2)), [0, 0])

    def test_of_senses_without_pairs(self):
        book = [tell(1, 2, "a: -\nb: -"), tell(2, 1, "p: -"), tell(1, 3, "a: k")]
        self.assertEqual(last(*book, fields(1, 2)), [0, 0])
        self.assertEqual(last(*book, fields(2, 1)), [0, 0])
        self.assertEqual(last(*book, fields(2, 3)), [0, 0])

    def test_senses_without_equivalents_are_in_no_field(self):
        book = [tell(1, 2, "a: -\nb: p\nc: -"), tell(2, 1, "o: -\nq: -")]
        self.assertEqual(found(*book), [(names("b"), names("p"))])

    def test_pairs_of_other_tongues_do_not_count(self):
        book = [tell(1, 2, "a: p\nb: q"), tell(1, 3, "a: k\nb: k"), tell(2, 3, "p: k\nq: k")]
        self.assertEqual(found(*book), [(names("a"), names("p")), (names("b"), names("q"))])

    def test_one_field_holds_all(self):
        self.assertEqual(found(tell(1, 2, "a: p, q\nb: p, q\nc: q, p")), [(names("abc"), names("pq"))])

    def test_one_that_another_begins_with_comes_behind_it(self):
        self.assertEqual(found(tell(1, 2, "a: p, q, r\nb: p, q\nc: p")),
                         [(names("abc"), names("p")), (names("ab"), names("pq")), (names("a"), names("pqr"))])

    def test_the_first_that_just_one_has_tells_the_order(self):
        # By their lengths, or as rows of which the shorter comes first, they would stand otherwise.
        book = tell(1, 2, "a: p, s\nb: q, s\nc: p, r\nd: p, q")
        self.assertEqual([row[0] for row in found(book)],
                         [names("ab"), names("acd"), names("a"), names("bd"), names("b"), names("c"), names("d")])

    def test_order_of_senses_by_words_then_by_numbers(self):
        book = tell(1, 2, "b: p\nab: q\na 2: p, q\na: r, p")
        self.assertEqual([row[0] for row in found(book)],
                         [["a 1", "a 2", "b 1"], ["a 1"], ["a 2", "ab 1"], ["a 2"]])

    def test_as_many_as_can_be(self):
        rows = found(SIX)
        self.assertEqual(len(rows), 63)
        self.assertEqual([row[0] for row in rows[:4]], [names("abcdef"), names("abcde"), names("abcdf"), names("abcd")])
        self.assertEqual(rows[0][1], ["all 1"])
        self.assertEqual(rows[31], (names("a"), ["all 1"] + ["y" + letter + " 1" for letter in "bcdef"]))
        self.assertEqual(rows[62], (names("f"), ["all 1"] + ["y" + letter + " 1" for letter in "abcde"]))

    def test_against_the_words(self):
        told_ones = 0
        for calls in some_books(120):
            for s, t in ((1, 2), (2, 1), (3, 1), (2, 3)):
                expected = in_words(calls, s, t)
                answer = last(*calls, fields(s, t))
                if expected is None:
                    self.assertEqual(answer, [-7])
                else:
                    self.assertEqual(read_fields(answer), expected)
                    told_ones += len(expected) > 4
        self.assertTrue(told_ones > 0)


class SixSensesTest(unittest.TestCase):
    def test_six_and_seven_with_equivalents(self):
        words = many_words(7)
        rows = [word + ": " + word for word in words]
        for ask_for in ASKS:
            self.assertEqual(last(tell(1, 2, "\n".join(rows[:6])), ask_for(1, 2))[0], 0)
            self.assertEqual(last(tell(1, 2, "\n".join(rows)), ask_for(1, 2)), [-7])
            self.assertEqual(last(tell(2, 3, "\n".join(rows)), ask_for(3, 2)), [-7])
            self.assertEqual(last(tell(1, 2, "\n".join(word + ": p" for word in words)), ask_for(1, 2)), [-7])

    def test_others_without_equivalents_do_not_count(self):
        words = many_words(40)
        rows = [word + ": p" for word in words[:6]] + [word + ": -" for word in words[6:]]
        book = [tell(1, 2, "\n".join(rows)), tell(1, 3, "\n".join(word + ": k" for word in words))]
        self.assertEqual(found(*book), [([word + " 1" for word in words[:6]], ["p 1"])])
        self.assertEqual(last(*book, within(1, 2)), [0, 0])
        self.assertEqual(last(*book, fewest(1, 2)), [0, 1, 1, 1])
        for ask_for in ASKS:
            self.assertEqual(last(*book, pair(1, 2, words[39], "q"), ask_for(1, 2)), [-7])

    def test_more_than_six_of_the_second_tongue(self):
        words = many_words(40)
        book = tell(1, 2, "a: " + ", ".join(words) + "\nb: " + words[0])
        self.assertEqual(found(book), [(names("ab"), [words[0] + " 1"]), (names("a"), [word + " 1" for word in words])])
        self.assertEqual(last(book, within(1, 2)), [0, 1, 2, 1])
        self.assertEqual(last(book, fewest(1, 2)), [0, 1, 2, 1, 2])
        for ask_for in ASKS:
            self.assertEqual(last(book, ask_for(2, 1)), [-7])

    def test_tongues_ahead_of_too_many(self):
        book = [tell(1, t, "\n".join(word + ": p" for word in many_words(7))) for t in (2, 3)]
        for ask_for in ASKS:
            for s, t in ((1, 1), (1, 0), (1, 4), (4, 2)):
                self.assertEqual(last(*book, ask_for(s, t)), [-2])


class WithinTest(unittest.TestCase):
    def test_places_by_the_first_then_by_the_second(self):
        self.assertEqual(last(THREE, within(1, 2)), [0, 3, 3, 1, 3, 2, 4, 2])
        self.assertEqual(last(THREE, within(2, 1)), [0, 3, 2, 1, 4, 1, 4, 3])

    def test_a_chain_of_three(self):
        self.assertEqual(last(tell(1, 2, "a: p, q, r\nb: p, q\nc: p"), within(1, 2)), [0, 2, 2, 1, 3, 2])

    def test_neither_within_the_other(self):
        self.assertEqual(last(tell(1, 2, "a: p\nb: q"), within(1, 2)), [0, 0])
        # Both of a with p q, b with q r lie in a b with q, and not in one another.
        self.assertEqual(last(tell(1, 2, "a: p, q\nb: q, r"), within(1, 2)), [0, 2, 2, 1, 3, 1])

    def test_none(self):
        self.assertEqual(last(within(1, 2)), [0, 0])
        self.assertEqual(last(tell(1, 2, "a: -"), within(1, 2)), [0, 0])
        self.assertEqual(last(tell(1, 2, "a: p, q\nb: p, q"), within(1, 2)), [0, 0])

    def test_as_many_as_can_be(self):
        rows = read_within(last(SIX, within(1, 2)))
        # Each row of some of six is right within those that have one more.
        self.assertEqual(len(rows), 6 * 32 - 6)
        self.assertEqual(rows, right_within(found(SIX)))

    def test_against_the_words(self):
        met = 0
        for calls in some_books(120):
            for s, t in ((1, 2), (3, 1)):
                rows = in_words(calls, s, t)
                if rows is not None:
                    self.assertEqual(read_within(last(*calls, within(s, t))), right_within(rows))
                    met += len(right_within(rows)) > 3
        self.assertTrue(met > 0)


class FewestTest(unittest.TestCase):
    def test_of_no_pairs_none_is_needed(self):
        self.assertEqual(last(fewest(1, 2)), [0, 1, 0])
        self.assertEqual(last(tell(1, 2, "a: -"), tell(1, 3, "a: k"), fewest(1, 2)), [0, 1, 0])

    def test_one_field(self):
        self.assertEqual(last(tell(1, 2, "a: p"), fewest(1, 2)), [0, 1, 1, 1])
        self.assertEqual(last(tell(1, 2, "a: p, q\nb: p, q"), fewest(1, 2)), [0, 1, 1, 1])

    def test_four_needed_and_five(self):
        self.assertEqual(last(tell(1, 2, "a: p\nb: q\nc: r"), fewest(1, 2)), [0, 1, 3, 1, 2, 3])
        self.assertEqual(last(tell(1, 2, "a: p\nb: q\nc: r\nd: s"), fewest(1, 2)), [0, 1, 4, 1, 2, 3, 4])
        self.assertEqual(last(tell(1, 2, "a: p\nb: q\nc: r\nd: s\ne: t"), fewest(1, 2)), [0, 0])
        self.assertEqual(last(tell(1, 2, "a: p\nb: q\nc: r\nd: s\ne: t\nf: u"), fewest(1, 2)), [0, 0])

    def test_the_first_of_two_rows_of_as_few(self):
        # a with q is in a c with q (2) and in a with p q (3).
        self.assertEqual(last(THREE, fewest(1, 2)), [0, 1, 3, 1, 2, 4])

    def test_those_that_are_not_needed_are_left_out(self):
        # a b c with q is the first field, a b with p q and b c with q r hold all.
        book = tell(1, 2, "a: p, q\nb: p, q, r\nc: q, r")
        self.assertEqual([row[0] for row in found(book)], [names("abc"), names("ab"), names("bc"), names("b")])
        self.assertEqual(last(book, fewest(1, 2)), [0, 1, 2, 2, 3])

    def test_of_as_many_fields_as_can_be(self):
        self.assertEqual(last(SIX, fewest(1, 2)), fewest_in_words(found(SIX)))

    def test_against_the_words(self):
        met = {}
        for calls in some_books(120):
            for s, t in ((1, 2), (3, 1)):
                rows = in_words(calls, s, t)
                if rows is not None:
                    answer = last(*calls, fewest(s, t))
                    self.assertEqual(answer, fewest_in_words(rows))
                    met[answer[2] if answer[1] == 1 else 5] = True
        self.assertEqual(sorted(met), [0, 1, 2, 3, 4, 5])


class PromiseThreeTest(unittest.TestCase):
    def test_each_pair_is_in_some_field_and_each_field_is_of_pairs(self):
        met = 0
        for calls in some_books(120):
            for s, t in ((1, 2), (2, 1), (1, 3), (3, 2)):
                pairs = links(calls, s, t)
                answer = last(*calls, fields(s, t))
                if answer != [-7]:
                    held = {(x, y) for row in read_fields(answer) for x in row[0] for y in row[1]}
                    self.assertEqual(held, {(x, y) for x in pairs for y in pairs[x]})
                    met += len(held) > 6
        self.assertTrue(met > 0)

    def test_closing_twice_is_closing_once(self):
        greater = 0
        for calls in some_books(60):
            for s, t in ((1, 2), (3, 2)):
                own = read_senses(last(*calls, senses(s)))
                for row in list(itertools.combinations(own, 1)) + list(itertools.combinations(own, 2)):
                    once = last(*calls, closed(s, t, ", ".join(row)))
                    firsts = read_fields([0, 1] + once[1:])[0][0]
                    self.assertEqual(last(*calls, closed(s, t, ",".join(firsts))), once)
                    greater += len(row) < len(firsts) < len(own)
        self.assertTrue(greater > 0)

    def test_a_field_closed_is_that_field(self):
        for calls in (list(BOOK), [THREE], [SIX]):
            for row in found(*calls):
                self.assertEqual(last(*calls, closed(1, 2, ", ".join(row[0]))), [0] + told(*row[0]) + told(*row[1]))

    def test_a_field_turned_round_is_a_field_of_the_tongues_turned_round(self):
        met = 0
        for calls in some_books(120):
            for s, t in ((1, 2), (3, 1), (2, 3)):
                there, turned = last(*calls, fields(s, t)), last(*calls, fields(t, s))
                if [-7] not in (there, turned):
                    own = [x for x, paired in links(calls, t, s).items() if paired]
                    expected = [(seconds, firsts) for firsts, seconds in read_fields(there)]
                    expected = sorted(expected, key=lambda row: [x not in row[0] for x in own])
                    self.assertEqual(read_fields(turned), expected)
                    met += len(expected) > 4
        self.assertTrue(met > 0)
