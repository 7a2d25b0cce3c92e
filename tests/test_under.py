"""Words that lie under one another: below and just below, places that are kept, and all words below."""

import unittest
from inspect import isgenerator
from itertools import combinations, permutations, product

from bondwords.bonds import Bonds
from bondwords.errors import BadWord, TooGreat
from bondwords.rows import alike, length
from bondwords.shortest import least_word
from bondwords.under import count_below, is_below, is_just_below, just_below, kept, words_below
from refusals import RefusalCase
from samples import (
    BONDS, FINITE, LARGE, ONE, PAIRS, SIX, TRIPLES, least_alike, shortest_alike, shortest_word, some_word, table, words,
)


def first_of(bonds, word):
    return next(words_below(bonds, word))


def told_below(rows, word):
    """The least shortest words of all words below a shortest word, as point [40] tells: letters are struck out."""
    found = set()
    for many in range(len(word) + 1):
        for left in combinations(word, many):
            least = least_alike(rows, left)
            if len(least) == many:
                found.add(least)
    return found


class UnderCase(RefusalCase):

    def check_kept(self, bonds, one, other):
        """That kept tells places as the interface asks, if the one is below the other."""
        places = kept(bonds, one, other)
        self.assertIs(is_below(bonds, one, other), places is not None)
        if places is not None:
            self.assertIs(type(places), tuple)
            self.assertEqual(list(places), sorted(set(places)))
            letters = least_word(bonds, other)
            self.assertTrue(all(0 <= place < len(letters) for place in places))
            self.assertEqual(len(places), length(bonds, one))
            self.assertTrue(alike(bonds, [letters[place] for place in places], one))


class WrongWordsTest(RefusalCase):

    def test_values_that_are_no_word(self):
        bonds = Bonds(TRIPLES[6])
        for function in (first_of, count_below, just_below):
            self.refuses_no_words(lambda word: function(bonds, word))
        for function in (is_below, is_just_below, kept):
            for other in ((), (1, 2, 3) * 5, None, [4], [1] * 61):
                self.refuses_no_words(lambda word: function(bonds, word, other))
            for one in ((), (1,), (1, 2, 3) * 20):
                self.refuses_no_words(lambda word: function(bonds, one, word))

    def test_the_first_of_two_words_that_are_none(self):
        bonds = Bonds(PAIRS[3])
        for function in (is_below, is_just_below, kept):
            self.refused(BadWord, lambda: function(bonds, [1, 3], [0]), place=1)
            self.refused(BadWord, lambda: function(bonds, [0], [1] * 61), place=0)
            self.refused(TooGreat, lambda: function(bonds, [1] * 61, None), most=60)

    def test_more_than_twelve_letters_of_shortest_words(self):
        long = (1, 2) * 30
        for function in (first_of, count_below, just_below):
            for rows, word in (
                (PAIRS[0], long[:13]), (PAIRS[0], long), (PAIRS[0], long[:15] + (1, 1)), (TRIPLES[6], (1, 2, 3) * 5),
                (table(4, b12=6, b34=0), (3, 4, 1, 2, 1, 2, 1, 2) + (3, 4, 3, 4, 3)),
            ):
                self.refused(TooGreat, lambda: function(Bonds(rows), word), most=12)
            self.refused(BadWord, lambda: function(Bonds(PAIRS[0]), long[:40] + (3,)), place=40)

    def test_twelve_letters_of_shortest_words(self):
        bonds = Bonds(PAIRS[0])
        for word in ((1, 2) * 6, (1, 2) * 6 + (1, 1) * 24, (1,) * 49 + (2, 1) * 5 + (2,)):
            self.assertEqual(length(bonds, word), 12)
            self.assertEqual(count_below(bonds, word), 24)
            self.assertEqual(len(list(words_below(bonds, word))), 24)
            self.assertEqual(just_below(bonds, word), (((1, 2) * 6)[:11], ((2, 1) * 6)[:11]))
        for rows in (ONE, PAIRS[2], PAIRS[6], SIX):
            self.assertEqual(count_below(Bonds(rows), (1,) * 60), 1)
            self.assertEqual(list(words_below(Bonds(rows), (1,) * 59)), [(), (1,)])
            self.assertEqual(just_below(Bonds(rows), (1,) * 59), ((),))


class CallsTest(RefusalCase):

    def test_parameter_names(self):
        bonds = Bonds(PAIRS[3])
        self.assertIs(is_below(other=[1, 2], one=[1], bonds=bonds), True)
        self.assertIs(is_just_below(other=[1, 2, 1], one=[1], bonds=bonds), False)
        self.assertEqual(kept(other=[1, 2], one=[2], bonds=bonds), (1,))
        self.assertEqual(list(words_below(word=[2, 1], bonds=bonds)), [(), (1,), (2,), (2, 1)])
        self.assertEqual(count_below(word=[2, 1], bonds=bonds), 4)
        self.assertEqual(just_below(word=[2, 1], bonds=bonds), ((1,), (2,)))

    def test_lists_are_taken_and_not_changed(self):
        bonds = Bonds(TRIPLES[2])
        for word in words(3, 3):
            given = list(word)
            self.assertEqual(list(words_below(bonds, given)), list(words_below(bonds, word)))
            self.assertEqual(count_below(bonds, given), count_below(bonds, word))
            self.assertEqual(just_below(bonds, given), just_below(bonds, word))
            for function in (is_below, is_just_below, kept):
                self.assertEqual(function(bonds, given, [1, 2, 3]), function(bonds, word, (1, 2, 3)))
                self.assertEqual(function(bonds, [1, 2], given), function(bonds, (1, 2), word))
            self.assertEqual(given, list(word))

    def test_words_are_looked_at_when_the_first_one_is_asked_for(self):
        bonds = Bonds(PAIRS[3])
        word = [1]
        found = words_below(bonds, word)
        self.assertTrue(isgenerator(found))
        word.append(2)
        self.assertEqual(next(found), ())
        word.clear()
        self.assertEqual(list(found), [(1,), (2,), (1, 2)])
        for wrong, error in ((None, BadWord), ([1] * 61, TooGreat)):
            found = words_below(bonds, wrong)
            with self.assertRaises(error):
                next(found)
        found = words_below(Bonds(PAIRS[0]), [1, 2] * 7)
        self.refused(TooGreat, lambda: next(found), most=12)
        word = [1]
        found = words_below(bonds, word)
        word[0] = 3
        self.refused(BadWord, lambda: next(found), place=0)


class AgainstDeedsTest(UnderCase):
    """All words of a few letters, and what is left of them if letters are struck out."""

    def check(self, rows, most):
        bonds = Bonds(rows)
        below = {}
        for word in words(len(rows), most):
            least = least_alike(rows, word)
            if least not in below:
                below[least] = told_below(rows, least)
                for other in shortest_alike(rows, word):
                    self.assertEqual(told_below(rows, other), below[least])
            told = sorted(below[least], key=lambda left: (len(left), left))
            self.assertEqual(list(words_below(bonds, word)), told)
            self.assertEqual(count_below(bonds, word), len(told))
            self.assertEqual(just_below(bonds, word), tuple(left for left in told if len(left) == len(least) - 1))
        for one, other in product(words(len(rows), most), words(len(rows), most)):
            least = least_alike(rows, one)
            told = least in below[least_alike(rows, other)]
            self.assertIs(is_below(bonds, one, other), told)
            just = told and len(least) + 1 == len(least_alike(rows, other))
            self.assertIs(is_just_below(bonds, one, other), just)
            self.check_kept(bonds, one, other)

    def test_one_letter(self):
        self.check(ONE, 5)

    def test_two_letters(self):
        for bond in BONDS:
            self.check(PAIRS[bond], 5)

    def test_three_letters(self):
        for rows in TRIPLES:
            self.check(rows, 3)
        self.check(TRIPLES[2], 4)
        self.check(TRIPLES[4], 4)

    def test_five_letters(self):
        self.check(table(5, b12=3, b23=4, b34=3, b45=0), 2)

    def test_longer_words(self):
        for rows in (TRIPLES[2], TRIPLES[3], TRIPLES[6], TRIPLES[10], table(4, b12=3, b23=3, b34=3), PAIRS[6]):
            bonds = Bonds(rows)
            for seed in range(3):
                word = shortest_word(bonds, 6, seed)
                told = told_below(rows, word)
                self.assertEqual(set(words_below(bonds, word)), told)
                for other in words(len(rows), 4):
                    self.assertIs(is_below(bonds, other, word), least_alike(rows, other) in told)


class KnownTest(UnderCase):

    def test_by_hand(self):
        bonds = Bonds(TRIPLES[2])
        self.assertIs(is_below(bonds, (1, 3), (1, 2, 3)), True)
        self.assertIs(is_below(bonds, (3, 1), (1, 2, 3)), True)
        self.assertIs(is_below(bonds, (2, 1), (1, 2, 3)), False)
        self.assertIs(is_below(bonds, (2, 1), (2, 1, 2)), True)
        self.assertIs(is_below(bonds, (2, 1), (1, 2, 1, 1, 1)), True)
        self.assertIs(is_below(bonds, (1, 1), (2, 2)), True)
        self.assertIs(is_below(bonds, (1,), (2, 2)), False)
        self.assertIs(is_just_below(bonds, (1, 2, 2), (1, 2)), True)
        self.assertIs(is_just_below(bonds, (1,), (1,)), False)
        self.assertIs(is_just_below(bonds, (), (1, 2)), False)
        self.assertIs(is_just_below(bonds, (3,), (1, 2)), False)
        self.assertIs(is_just_below(bonds, (), (2, 1, 2)), False)
        self.assertIsNone(kept(bonds, (3,), (1, 2)))
        self.assertEqual(kept(bonds, (3, 3), (1, 2)), ())
        self.assertEqual(kept(bonds, (2, 1, 2), (2, 1, 2)), (0, 1, 2))
        self.assertEqual(kept(bonds, (3, 1), (3, 2, 2, 1)), (0, 1))
        self.assertEqual(kept(bonds, (3,), (3, 2, 1)), (0,))

    def test_places_and_not_letters(self):
        for rows in (PAIRS[0], PAIRS[6]):
            self.assertEqual(kept(Bonds(rows), (1, 2, 1, 2), (1, 2, 1, 2)), (0, 1, 2, 3))
        self.assertEqual(kept(Bonds(table(6)), (6, 4, 2), (6, 5, 4, 3, 2, 1)), (1, 3, 5))

    def test_the_longest_word_is_above_all(self):
        for rows, many, count in FINITE:
            if many <= 12:
                bonds = Bonds(rows)
                word = shortest_word(bonds, many, 5)
                self.assertEqual(count_below(bonds, word), count)
                found = list(words_below(bonds, word))
                self.assertEqual(found, sorted(set(found), key=lambda left: (len(left), left)))
                self.assertEqual((len(found), found[0], found[-1]), (count, (), least_word(bonds, word)))
                self.assertEqual(len(just_below(bonds, word)), len(rows))

    def test_words_without_a_bond(self):
        bonds = Bonds(TRIPLES[9])
        word = (1, 2, 3) * 4
        told = {left for many in range(13) for left in combinations(word, many) if all(map(int.__ne__, left, left[1:]))}
        self.assertEqual(set(words_below(bonds, word)), told)
        self.assertEqual(count_below(bonds, word), len(told))
        self.assertEqual(list(just_below(bonds, word)), sorted(left for left in told if len(left) == 11))


class LongWordsTest(UnderCase):

    def test_sixty_letters(self):
        bonds = Bonds(PAIRS[0])
        long = (1, 2) * 30
        for many in range(61):
            self.assertIs(is_below(bonds, long[:many], long), True)
            self.assertIs(is_below(bonds, long[60 - many:], long), True)
            self.assertIs(is_just_below(bonds, long[:many], long), many == 59)
            self.assertIs(is_below(bonds, long, long[:many]), many == 60)
            self.check_kept(bonds, long[1:many], long)
        self.assertIs(is_below(bonds, long[::-1], long), False)
        self.assertIs(is_just_below(bonds, long[1:], long), True)

    def test_what_is_left_of_long_words(self):
        for rows in LARGE:
            bonds = Bonds(rows)
            for seed in range(6):
                word = some_word(len(rows), 40, seed)
                least = least_word(bonds, word)
                for step in (2, 3, 5):
                    self.assertIs(is_below(bonds, least[::step], word), True)
                    self.check_kept(bonds, least[seed::step], word)
                for place in range(len(least)):
                    rest = least[:place] + least[place + 1:]
                    self.assertIs(is_below(bonds, rest, word), True)
                    self.assertIs(is_just_below(bonds, rest, word), length(bonds, rest) == len(least) - 1)
                    self.assertIs(is_below(bonds, word, rest), False)
                self.check_kept(bonds, some_word(len(rows), 4, seed + 1), word)

    def test_an_order(self):
        """Point [50]."""
        for rows in (TRIPLES[2], TRIPLES[8], TRIPLES[10]):
            bonds = Bonds(rows)
            some = [some_word(3, many, seed) for many in range(7) for seed in range(3)]
            for word in some:
                self.assertIs(is_below(bonds, word, word), True)
                self.assertIs(is_below(bonds, word, least_word(bonds, word)), True)
                self.assertIs(is_below(bonds, (), word), True)
            for one, other in permutations(some, 2):
                both = is_below(bonds, one, other) and is_below(bonds, other, one)
                self.assertIs(both, alike(bonds, one, other))
                if is_below(bonds, one, other):
                    for word in some:
                        self.assertTrue(not is_below(bonds, word, one) or is_below(bonds, word, other))


if __name__ == "__main__":
    unittest.main()
