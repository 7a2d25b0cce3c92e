"""Lists of shortest words: how many there are, all of them, the one with a number, and the number of one."""

import unittest
from inspect import isgenerator
from itertools import islice

from bondwords.bonds import Bonds
from bondwords.errors import BadNumber, BadWord, TooGreat, Unlike
from bondwords.lists import count_shortest, shortest_words, word_at, word_number
from bondwords.rows import alike
from bondwords.shortest import is_shortest, least_word
from refusals import RefusalCase
from samples import (
    BONDS, FINITE, GREAT, LARGE, ONE, PAIRS, PATH_OF_SIX, SIX, TRIPLES, shortest_alike, shortest_word, some_word, table,
    words,
)

NO_NUMBERS = (True, False, None, "0", "", b"0", (0,), [0], {}, (), 0.0)


def first_of(bonds, word):
    return next(shortest_words(bonds, word))


def functions():
    """Each function with a word as its last argument, and word_at with numbers that are right and wrong."""
    yield from (count_shortest, first_of, word_number)
    for number in (0, -1, 10 ** 9, True, None, "0"):
        yield lambda bonds, word: word_at(bonds, word, number)


class WrongWordsTest(RefusalCase):

    def test_values_that_are_no_word(self):
        bonds = Bonds(TRIPLES[3])
        for function in functions():
            self.refuses_no_words(lambda word: function(bonds, word))

    def test_more_than_sixteen_letters(self):
        for rows in (PAIRS[0], PAIRS[3], SIX):
            bonds = Bonds(rows)
            for many in (17, 18, 59, 60):
                for word in ([1] * many, ((1, 2) * 30)[:many], (1, 2) + (1,) * (many - 2)):
                    for function in functions():
                        self.refused(TooGreat, lambda: function(bonds, word), most=16)

    def test_letters_ahead_of_their_number(self):
        for function in functions():
            self.refused(BadWord, lambda: function(Bonds(PAIRS[3]), (1,) * 16 + (3,)), place=16)

    def test_sixteen_letters(self):
        for rows in (PAIRS[0], PAIRS[3], SIX):
            bonds = Bonds(rows)
            self.assertEqual(count_shortest(bonds, [1] * 16), 1)
            self.assertEqual(list(shortest_words(bonds, [1] * 16)), [()])
            self.assertEqual(word_at(bonds, [1] * 16, 0), ())
            self.refused(Unlike, lambda: word_number(bonds, [1] * 16))
        self.assertEqual(word_number(Bonds(PAIRS[0]), (1, 2) * 8), 0)


class CallsTest(RefusalCase):

    def test_parameter_names(self):
        bonds = Bonds(PAIRS[3])
        self.assertEqual(count_shortest(word=[2, 1, 2], bonds=bonds), 2)
        self.assertEqual(list(shortest_words(word=[2, 1, 2], bonds=bonds)), [(1, 2, 1), (2, 1, 2)])
        self.assertEqual(word_at(number=1, word=[1, 2, 1], bonds=bonds), (2, 1, 2))
        self.assertEqual(word_number(word=[2, 1, 2], bonds=bonds), 1)

    def test_lists_are_taken_and_not_changed(self):
        bonds = Bonds(TRIPLES[2])
        for word in words(3, 4):
            given = list(word)
            self.assertEqual(count_shortest(bonds, given), count_shortest(bonds, word))
            self.assertEqual(list(shortest_words(bonds, given)), list(shortest_words(bonds, word)))
            self.assertEqual(word_at(bonds, given, 0), word_at(bonds, word, 0))
            if is_shortest(bonds, word):
                self.assertEqual(word_number(bonds, given), word_number(bonds, word))
            self.assertEqual(given, list(word))

    def test_a_generator_of_tuples(self):
        found = shortest_words(Bonds(PAIRS[3]), [2, 1, 2])
        self.assertTrue(isgenerator(found))
        self.assertIs(type(next(found)), tuple)
        self.assertEqual(next(found), (2, 1, 2))
        self.assertEqual(list(found), [])

    def test_words_are_looked_at_when_the_first_one_is_asked_for(self):
        bonds = Bonds(PAIRS[3])
        word = [1]
        found = shortest_words(bonds, word)
        word += [2, 1]
        self.assertEqual(next(found), (1, 2, 1))
        word.clear()
        self.assertEqual(list(found), [(2, 1, 2)])
        word = [0]
        found = shortest_words(bonds, word)
        word[0] = 2
        self.assertEqual(list(found), [(2,)])

    def test_errors_when_the_first_one_is_asked_for(self):
        bonds = Bonds(PAIRS[3])
        for wrong, error in (([3], BadWord), (None, BadWord), ([1] * 61, TooGreat), ([1] * 17, TooGreat)):
            found = shortest_words(bonds, wrong)
            with self.assertRaises(error):
                next(found)
        word = [1]
        found = shortest_words(bonds, word)
        word.append(0)
        self.refused(BadWord, lambda: next(found), place=1)


class AgainstDeedsTest(RefusalCase):

    def check(self, rows, most):
        bonds = Bonds(rows)
        for word in words(len(rows), most):
            told = shortest_alike(rows, word)
            self.assertEqual(count_shortest(bonds, word), len(told))
            self.assertEqual(list(shortest_words(bonds, word)), told)
            self.assertEqual([word_at(bonds, word, number) for number in range(len(told))], told)
            for wrong in (-1, len(told), GREAT, -GREAT):
                self.refused(BadNumber, lambda: word_at(bonds, word, wrong), value=wrong)
            if word in told:
                self.assertEqual(word_number(bonds, word), told.index(word))
            else:
                self.refused(Unlike, lambda: word_number(bonds, word))

    def test_one_letter(self):
        self.check(ONE, 6)

    def test_two_letters(self):
        for bond in BONDS:
            self.check(PAIRS[bond], 8)

    def test_three_letters(self):
        for rows in TRIPLES:
            self.check(rows, 5)
        self.check(TRIPLES[2], 6)

    def test_four_letters(self):
        self.check(table(4, b12=3, b23=3, b34=3), 4)
        self.check(table(4, b12=3, b13=4, b14=6), 4)

    def test_six_letters(self):
        self.check(SIX, 3)

    def test_all_shortest_words_of_a_long_one(self):
        for rows in (TRIPLES[3], TRIPLES[4], table(4, b12=3, b23=3, b34=3), table(6), table(4, b12=6, b34=6)):
            bonds = Bonds(rows)
            told = shortest_alike(rows, shortest_word(bonds, 6, 1))
            self.assertEqual(list(shortest_words(bonds, told[-1])), told)
            self.assertEqual([word_number(bonds, word) for word in told], list(range(len(told))))


class KnownNumbersTest(RefusalCase):

    def test_the_longest_words_of_finite_bonds(self):
        """Counted by Stanley and others, with tableaux."""
        known = (
            (TRIPLES[2], 6, 16), (TRIPLES[3], 9, 42), (TRIPLES[4], 9, 42), (table(4, b12=3, b23=3, b34=3), 10, 768),
            (table(4, b12=3, b23=3, b34=4), 16, 24024), (table(4, b12=4, b23=3, b34=3), 16, 24024),
            (table(4, b13=3, b23=3, b34=3), 12, 2316), (table(5, b12=3, b23=3, b34=3, b45=3), 15, 292864),
            (table(6), 6, 720),
        )
        for rows, many, count in known:
            bonds = Bonds(rows)
            word = shortest_word(bonds, many, 2)
            self.assertEqual(count_shortest(bonds, word), count)
            self.assertEqual(word_at(bonds, word, 0), least_word(bonds, word))
            last = word_at(bonds, word, count - 1)
            self.assertEqual(word_number(bonds, last), count - 1)
            self.refused(BadNumber, lambda: word_at(bonds, word, count), value=count)
            if count < 30000:
                self.assertEqual(sum(1 for found in shortest_words(bonds, word)), count)

    def test_three_pairs_without_a_bond(self):
        bonds = Bonds(table(6, b12=0, b34=0, b56=0))
        word = (2, 1, 2, 1, 2, 4, 3, 4, 3, 4, 6, 5, 6, 5, 6, 5)
        count = 2018016
        self.assertEqual(count_shortest(bonds, word), count)
        self.assertEqual(word_number(bonds, word), 0)
        self.assertEqual(list(islice(shortest_words(bonds, word), 2)), [word, word[:9] + (6, 4) + word[11:]])
        last = word_at(bonds, word, count - 1)
        self.assertEqual(last, (6, 5, 6, 5, 6, 5, 4, 3, 4, 3, 4, 2, 1, 2, 1, 2))
        self.assertEqual(word_number(bonds, last), count - 1)

    def test_words_with_one_shortest_word(self):
        for rows, word in ((PAIRS[0], (1, 2) * 8), (TRIPLES[6], (1, 2, 3) * 5), (PAIRS[6], (2, 1, 2, 1, 2)), (SIX, ())):
            self.assertEqual(count_shortest(Bonds(rows), word), 1)
            self.assertEqual(list(shortest_words(Bonds(rows), word)), [word])
            self.assertEqual(word_number(Bonds(rows), word), 0)


class LongWordsTest(RefusalCase):

    def test_numbers_and_words_of_sixteen_letters(self):
        for rows in LARGE + tuple(rows for rows, many, count in FINITE):
            bonds = Bonds(rows)
            for seed in range(4):
                word = some_word(len(rows), 16, seed)
                count = count_shortest(bonds, word)
                found = [word_at(bonds, word, number) for number in sorted({0, count // 3, count // 2, count - 1})]
                self.assertEqual(found, sorted(set(found)))
                self.assertEqual(found[0], least_word(bonds, word))
                self.assertEqual(found[:1], list(islice(shortest_words(bonds, word), 1)))
                for one in found:
                    self.assertTrue(alike(bonds, one, word))
                    self.assertTrue(is_shortest(bonds, one))
                    self.assertEqual(word_at(bonds, word, word_number(bonds, one)), one)
                    self.assertEqual(count_shortest(bonds, one), count)

    def test_all_of_some_long_lists(self):
        for rows in LARGE:
            bonds = Bonds(rows)
            word = shortest_word(bonds, 10, 3)
            found = list(shortest_words(bonds, word))
            self.assertEqual(len(found), count_shortest(bonds, word))
            self.assertEqual(found, sorted(set(found)))
            self.assertEqual(word_number(bonds, word), found.index(tuple(word)))
            self.assertEqual([word_at(bonds, word, number) for number in range(len(found))], found)


class WrongNumbersTest(RefusalCase):

    def test_values_that_are_no_number(self):
        for rows, word in ((PAIRS[3], (1, 2, 1)), (PAIRS[0], ()), (SIX, (1, 1)), (PATH_OF_SIX, (1, 3, 5))):
            for value in NO_NUMBERS + (Bonds(ONE),):
                with self.subTest(value=value):
                    with self.assertRaises(BadNumber) as caught:
                        word_at(Bonds(rows), word, value)
                    self.assertIs(caught.exception.value, value)

    def test_numbers_beyond_the_last_one(self):
        bonds = Bonds(PAIRS[3])
        for word, count in (((), 1), ((1,), 1), ((1, 2, 1), 2), ((1, 2, 1, 2), 1), ((1, 1), 1)):
            self.assertIs(type(word_at(bonds, word, count - 1)), tuple)
            for number in (count, count + 1, -1, -count, GREAT):
                self.refused(BadNumber, lambda: word_at(bonds, word, number), value=number)

    def test_words_that_are_not_shortest(self):
        bonds = Bonds(TRIPLES[2])
        for word in ((1, 1), (1, 3, 1), (1, 2, 1, 2), (1, 2, 1, 3, 2, 1, 3), (1,) * 16):
            self.refused(Unlike, lambda: word_number(bonds, word))


if __name__ == "__main__":
    unittest.main()
