"""How many words there are of which no two are alike, by letters and in all, and which they are."""

import unittest
from inspect import isgenerator

from bondwords.bonds import Bonds
from bondwords.counts import count_of, counts, size, words_of
from bondwords.errors import BadNumber, Endless, TooGreat
from bondwords.rows import press
from bondwords.shortest import least_word
from bondwords.under import words_below
from refusals import RefusalCase
from samples import (
    ENDLESS, FINITE, GREAT, LARGE, ONE, PAIRS, PATH_OF_SIX, SIX, TRIPLES, least_alike, shortest_word, table,
    words,
)

NO_NUMBERS = (True, False, None, "0", "", b"0", (0,), [0], {}, (), 0.0, -1, -GREAT, GREAT)


def first_of(bonds, many):
    return next(words_of(bonds, many))


def without_bonds(many):
    """The table of so many letters of which no two have a bond."""
    return tuple(tuple(1 if one == other else 0 for other in range(many)) for one in range(many))


def told_counts(rows, most):
    """How many words there are for each number of letters to most: all rows are found by pressing."""
    bonds = Bonds(rows)
    found = {(1,) * len(rows)}
    fresh = found
    told = [1]
    for many in range(most):
        fresh = {press(bonds, row, letter) for row in fresh for letter in range(1, len(rows) + 1)} - found
        found |= fresh
        told.append(len(fresh))
    return tuple(told)


def product_of(degrees):
    """The numbers of (1 + t + .. + t ** (d - 1)) for each d, multiplied, to the power 60."""
    numbers = [1] + [0] * 60
    for degree in degrees:
        numbers = [sum(numbers[max(0, at - degree + 1):at + 1]) for at in range(61)]
    return tuple(numbers)


class WrongNumbersTest(RefusalCase):

    def test_values_that_are_no_number(self):
        for rows in (ONE, PAIRS[0], TRIPLES[2], SIX):
            bonds = Bonds(rows)
            for function, beyond in ((count_of, 61), (counts, 61), (first_of, 13)):
                for value in NO_NUMBERS + (beyond, beyond + 1, Bonds(ONE)):
                    with self.subTest(value=value):
                        with self.assertRaises(BadNumber) as caught:
                            function(bonds, value)
                        self.assertIs(caught.exception.value, value)

    def test_parameter_names(self):
        bonds = Bonds(PAIRS[3])
        self.assertEqual(count_of(many=1, bonds=bonds), 2)
        self.assertEqual(counts(many=4, bonds=bonds), (1, 2, 2, 1, 0))
        self.assertEqual(size(bonds=bonds), 6)
        self.assertEqual(list(words_of(many=3, bonds=bonds)), [(1, 2, 1)])


class CountsTest(RefusalCase):

    def check(self, rows, most):
        bonds = Bonds(rows)
        found = counts(bonds, most)
        self.assertIs(type(found), tuple)
        self.assertEqual(found, told_counts(rows, most))
        self.assertEqual(found, tuple(count_of(bonds, many) for many in range(most + 1)))

    def test_against_deeds(self):
        for rows in TRIPLES:
            least = {least_alike(rows, word) for word in words(3, 5)}
            told = tuple(sum(1 for word in least if len(word) == many) for many in range(6))
            self.assertEqual(counts(Bonds(rows), 5), told)

    def test_against_pressing(self):
        for rows in (ONE, *PAIRS.values(), *TRIPLES):
            self.check(rows, 9)
        for rows in LARGE:
            self.check(rows, 5)
        for rows in ENDLESS:
            self.check(rows, 4)
        for rows, many, count in FINITE:
            self.check(rows, 6)

    def test_zero_one_and_sixty(self):
        for rows in LARGE + ENDLESS:
            bonds = Bonds(rows)
            self.assertEqual(counts(bonds, 0), (1,))
            self.assertEqual(count_of(bonds, 0), 1)
            self.assertEqual(counts(bonds, 1), (1, len(rows)))
            self.assertEqual(count_of(bonds, 1), len(rows))
            self.assertEqual(len(counts(bonds, 60)), 61)
            self.assertEqual(counts(bonds, 60)[-1], count_of(bonds, 60))
            self.assertEqual(counts(bonds, 60)[:21], counts(bonds, 20))

    def test_finite_bonds(self):
        for rows, many, count in FINITE:
            found = counts(Bonds(rows), 60)
            self.assertEqual(sum(found), count)
            self.assertEqual(found[:many + 1], found[many::-1])
            self.assertEqual(found[many:], (1,) + (0,) * (60 - many))
            self.assertEqual(size(Bonds(rows)), count)

    def test_known_finite_ones(self):
        """By their degrees, which are due to Solomon and others."""
        for rows, degrees in (
            (PATH_OF_SIX, (2, 3, 4, 5, 6, 7)), (table(6, b12=3, b23=3, b34=3, b45=3, b56=4), (2, 4, 6, 8, 10, 12)),
            (table(6, b12=3, b23=3, b34=3, b45=3, b46=3), (2, 4, 6, 8, 10, 6)), (table(6), (2,) * 6),
            (table(6, b13=3, b34=3, b24=3, b45=3, b56=3), (2, 5, 6, 8, 9, 12)),
            (table(6, b12=3, b23=4, b34=3, b56=6), (2, 6, 8, 12, 2, 6)), (PAIRS[4], (2, 4)), (ONE, (2,)),
        ):
            self.assertEqual(counts(Bonds(rows), 60), product_of(degrees))

    def test_known_endless_ones(self):
        """By the degrees of the finite bonds that they come of, which are due to Bott."""
        self.assertEqual(counts(Bonds(PAIRS[0]), 60), (1,) + (2,) * 60)
        self.assertEqual(counts(Bonds(TRIPLES[6]), 60), (1,) + tuple(3 * many for many in range(1, 61)))
        self.assertEqual(counts(Bonds(TRIPLES[9]), 60), (1,) + tuple(3 * 2 ** many for many in range(60)))
        for rows, degrees in (
            (table(3, b12=4, b23=4), (2, 4)), (table(3, b12=6, b23=3), (2, 6)),
            (table(6, b12=3, b23=3, b34=3, b45=3, b56=3, b16=3), (2, 3, 4, 5, 6)),
            (table(5, b12=3, b23=3, b34=4, b45=3), (2, 6, 8, 12)),
            (table(6, b13=3, b23=3, b34=3, b45=3, b46=3), (2, 4, 6, 8, 5)),
        ):
            told = list(product_of(degrees))
            for degree in degrees:
                for at in range(degree - 1, 61):
                    told[at] += told[at - degree + 1]
            self.assertEqual(counts(Bonds(rows), 60), tuple(told))

    def test_no_bonds_at_all(self):
        for many in range(2, 7):
            self.assertEqual(count_of(Bonds(without_bonds(many)), 60), many * (many - 1) ** 59)


class SizeTest(RefusalCase):

    def test_by_hand(self):
        self.assertEqual(size(Bonds(ONE)), 2)
        self.assertEqual([size(Bonds(PAIRS[bond])) for bond in (2, 3, 4, 6)], [4, 6, 8, 12])
        self.assertEqual(size(Bonds(table(6, b13=3, b34=3, b24=3, b45=3, b56=3))), 51840)
        self.assertEqual(size(Bonds(table(6, b12=3, b23=3, b34=3, b45=3, b56=4))), 46080)

    def test_endless_bonds(self):
        for rows in ENDLESS:
            self.refused(Endless, lambda: size(Bonds(rows)))


class WordsOfTest(RefusalCase):

    def test_against_deeds(self):
        for rows in (ONE, *PAIRS.values(), *TRIPLES):
            bonds = Bonds(rows)
            least = {least_alike(rows, word) for word in words(len(rows), 5)}
            for many in range(6):
                self.assertEqual(list(words_of(bonds, many)), sorted(word for word in least if len(word) == many))

    def test_all_words_of_finite_bonds(self):
        for rows, many, count in FINITE:
            if many <= 12:
                bonds = Bonds(rows)
                told = list(words_below(bonds, shortest_word(bonds, many, 1)))
                found = [word for letters in range(13) for word in words_of(bonds, letters)]
                self.assertEqual(found, told)

    def test_twelve_letters(self):
        self.assertEqual(list(words_of(Bonds(PAIRS[0]), 12)), [(1, 2) * 6, (2, 1) * 6])
        self.assertEqual(list(words_of(Bonds(PAIRS[6]), 12)), [])
        for rows in (TRIPLES[6], TRIPLES[7], PATH_OF_SIX, table(4, b12=3, b23=4, b34=3), table(3, b12=3, b23=0)):
            bonds = Bonds(rows)
            found = list(words_of(bonds, 12))
            self.assertEqual(len(found), count_of(bonds, 12))
            self.assertEqual(found, sorted(set(found)))
            for word in found:
                self.assertEqual((len(word), least_word(bonds, word)), (12, word))

    def test_two_thousand_and_more(self):
        free = Bonds(without_bonds(6))
        self.assertEqual(len(list(words_of(free, 4))), 750)
        self.refused(TooGreat, lambda: first_of(free, 5), most=2000)
        large = table(6, b12=3, b23=3, b34=3, b45=3, b56=4)
        self.assertEqual(len(list(words_of(Bonds(large), 12))), 1919)
        large = table(6, b13=3, b34=3, b24=3, b45=3, b56=3)
        self.assertEqual(count_of(Bonds(large), 12), 2159)
        self.refused(TooGreat, lambda: first_of(Bonds(large), 12), most=2000)
        for rows in LARGE + ENDLESS:
            bonds = Bonds(rows)
            for many, count in enumerate(counts(bonds, 12)):
                if count > 2000:
                    self.refused(TooGreat, lambda: first_of(bonds, many), most=2000)
                elif count > 900:
                    self.assertEqual(len(list(words_of(bonds, many))), count)

    def test_exactly_two_thousand(self):
        bonds = Bonds(table(4, b12=6, b23=3, b34=0))
        self.assertEqual(count_of(bonds, 12), 2000)
        self.assertEqual(len(list(words_of(bonds, 12))), 2000)
        bonds = Bonds(table(5, b13=4, b14=6, b15=4, b23=3, b24=3, b25=3, b34=3, b45=6))
        self.assertEqual(count_of(bonds, 6), 2001)
        self.refused(TooGreat, lambda: first_of(bonds, 6), most=2000)

    def test_errors_when_the_first_one_is_asked_for(self):
        bonds = Bonds(TRIPLES[9])
        for value, error in ((None, BadNumber), (13, BadNumber), (12, TooGreat)):
            found = words_of(bonds, value)
            self.assertTrue(isgenerator(found))
            with self.assertRaises(error):
                next(found)

    def test_tuples_one_after_another(self):
        found = words_of(Bonds(PAIRS[3]), 2)
        self.assertEqual([next(found), next(found)], [(1, 2), (2, 1)])
        self.assertEqual(list(found), [])
        self.assertEqual(list(words_of(Bonds(SIX), 0)), [()])
        self.assertEqual(list(words_of(Bonds(PAIRS[0]), 1)), [(1,), (2,)])
        self.assertEqual(list(words_of(Bonds(PAIRS[2]), 3)), [])


if __name__ == "__main__":
    unittest.main()
