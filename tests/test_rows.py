"""Rows: pressing, rows of words, words of rows, lengths, first and last letters."""

import unittest
from itertools import product

from bondwords.bonds import Bonds
from bondwords.errors import BadNumber, BadRow, BadWord, TooGreat
from bondwords.rows import alike, firsts, lasts, length, press, row_of, word_of
from refusals import RefusalCase
from samples import BONDS, GREAT, ONE, PAIRS, SIX, TRIPLES, WEIGHTS, shortest_alike, table, words

NO_NUMBERS = (True, False, None, "1", (1,), [1], {}, 1.0)


def told_weight(rows, one, other):
    """w(one, other), as point [12] tells it."""
    up, down = WEIGHTS[rows[min(one, other) - 1][max(one, other) - 1]]
    return up if one < other else down


def told_press(rows, row, letter):
    """What point [12] says of pressing, number by number."""
    number = row[letter - 1]
    out = list(row)
    for other in range(1, len(rows) + 1):
        if other == letter:
            out[other - 1] = -number
        else:
            out[other - 1] += told_weight(rows, letter, other) * number
    return tuple(out)


class PressTest(unittest.TestCase):

    def test_by_hand(self):
        self.assertEqual(press(Bonds(PAIRS[2]), (5, 7), 1), (-5, 7))
        self.assertEqual(press(Bonds(PAIRS[3]), (5, 7), 1), (-5, 12))
        self.assertEqual(press(Bonds(PAIRS[3]), (5, 7), 2), (12, -7))
        self.assertEqual(press(Bonds(PAIRS[4]), (5, 7), 1), (-5, 12))
        self.assertEqual(press(Bonds(PAIRS[4]), (5, 7), 2), (19, -7))
        self.assertEqual(press(Bonds(PAIRS[6]), (5, 7), 1), (-5, 12))
        self.assertEqual(press(Bonds(PAIRS[6]), (5, 7), 2), (26, -7))
        self.assertEqual(press(Bonds(PAIRS[0]), (5, 7), 1), (-5, 17))
        self.assertEqual(press(Bonds(PAIRS[0]), (5, -7), 2), (-9, 7))
        self.assertEqual(press(Bonds(ONE), (-3,), 1), (3,))

    def test_all_letters_on_all_sorts_of_rows(self):
        numbers = (0, 1, -1, 9, -20, GREAT, 3 - GREAT)
        for rows in tuple(PAIRS.values()) + TRIPLES:
            bonds = Bonds(rows)
            for row in product(numbers, repeat=len(rows)):
                for letter in range(1, len(rows) + 1):
                    self.assertEqual(press(bonds, row, letter), told_press(rows, row, letter))

    def test_six_letters(self):
        bonds = Bonds(SIX)
        for row in ((1,) * 6, (0,) * 6, (3, -4, 0, GREAT, -GREAT, 1), (-1, -2, -3, -4, -5, -6)):
            for letter in range(1, 7):
                behind = press(bonds=bonds, row=row, letter=letter)
                self.assertIs(type(behind), tuple)
                self.assertEqual(behind, told_press(SIX, row, letter))
                self.assertEqual(press(bonds, behind, letter), row)

    def test_values_that_are_no_row(self):
        bonds = Bonds(PAIRS[3])
        wrong = [None, 1, "11", [1, 1], [], (), (1,), (1, 1, 1), {1: 1, 2: 1}, range(2), ((1, 1),), bonds]
        wrong += [(1, item) for item in NO_NUMBERS] + [(item, 1) for item in NO_NUMBERS]
        for row in wrong:
            for letter in (1, 3, None):
                with self.subTest(row=row, letter=letter):
                    with self.assertRaises(BadRow) as caught:
                        press(bonds, row, letter)
                    self.assertIs(caught.exception.value, row)

    def test_values_that_are_no_letter(self):
        bonds = Bonds(PAIRS[3])
        for letter in (0, 3, -1, GREAT) + NO_NUMBERS:
            with self.subTest(letter=letter):
                with self.assertRaises(BadNumber) as caught:
                    press(bonds, (0, -1), letter)
                self.assertIs(caught.exception.value, letter)


class WordsTest(RefusalCase):

    def calls(self, bonds):
        return (
            lambda word: row_of(bonds, word), lambda word: length(bonds, word), lambda word: firsts(bonds, word),
            lambda word: lasts(bonds, word), lambda word: alike(bonds, word, (1,)),
            lambda word: alike(bonds, (1,), word), lambda word: alike(bonds, word, [None] * 100),
        )

    def test_values_that_are_no_word(self):
        for call in self.calls(Bonds(TRIPLES[3])):
            self.refuses_no_words(call)

    def test_the_first_of_two_words_that_are_none(self):
        bonds = Bonds(PAIRS[3])
        self.refused(BadWord, lambda: alike(bonds, [1, 2, 3], None), place=2)
        self.refused(TooGreat, lambda: alike(bonds, [1] * 61, [0]), most=60)
        self.refused(BadWord, lambda: alike(bonds, [0], [1] * 61), place=0)

    def test_words_are_not_changed(self):
        bonds = Bonds(TRIPLES[2])
        word = [1, 2, 2, 3, 1]
        for function in (row_of, length, firsts, lasts):
            function(bonds, word)
        alike(bonds, word, word)
        self.assertEqual(word, [1, 2, 2, 3, 1])

    def test_lists_and_tuples_are_equal_here(self):
        bonds = Bonds(TRIPLES[4])
        for word in words(3, 4):
            for function in (row_of, length, firsts, lasts):
                self.assertEqual(function(bonds, list(word)), function(bonds, word))
            self.assertTrue(alike(bonds, list(word), word))

    def test_parameter_names(self):
        bonds = Bonds(PAIRS[3])
        self.assertEqual(row_of(word=[1], bonds=bonds), (-1, 2))
        self.assertEqual(word_of(row=(-1, 2), bonds=bonds), (1,))
        self.assertEqual(length(word=[1], bonds=bonds), 1)
        self.assertEqual(firsts(word=[1], bonds=bonds), (1,))
        self.assertEqual(lasts(word=[1], bonds=bonds), (1,))
        self.assertIs(alike(other=[1], one=[2], bonds=bonds), False)


class RowOfTest(unittest.TestCase):

    def test_by_hand(self):
        self.assertEqual(row_of(Bonds(PAIRS[3]), (1, 2)), (1, -2))
        self.assertEqual(row_of(Bonds(PAIRS[3]), (1, 2, 1)), (-1, -1))
        self.assertEqual(row_of(Bonds(PAIRS[4]), (2, 1)), (-3, 2))
        self.assertEqual(row_of(Bonds(PAIRS[6]), (2,)), (4, -1))
        self.assertEqual(row_of(Bonds(PAIRS[0]), (1, 2, 1)), (-5, 7))

    def test_the_empty_word(self):
        for rows in (ONE, SIX, PAIRS[0]):
            for word in ((), []):
                self.assertEqual(row_of(Bonds(rows), word), (1,) * len(rows))

    def test_against_pressing_one_letter_after_another(self):
        for rows in tuple(PAIRS.values()) + TRIPLES + (SIX,):
            bonds = Bonds(rows)
            long = tuple(at * at % 7 % len(rows) + 1 for at in range(60))
            for word in list(words(len(rows), 3)) + [long, long[::-1], (1,) * 60]:
                row = (1,) * len(rows)
                for letter in word:
                    row = press(bonds, row, letter)
                self.assertEqual(row_of(bonds, word), row)


class WordOfTest(unittest.TestCase):

    def refused(self, bonds, row):
        with self.assertRaises(BadRow) as caught:
            word_of(bonds, row)
        self.assertIs(caught.exception.value, row)

    def test_by_hand(self):
        self.assertEqual(word_of(Bonds(ONE), (1,)), ())
        self.assertEqual(word_of(Bonds(ONE), (-1,)), (1,))
        self.assertEqual(word_of(Bonds(PAIRS[3]), (-1, -1)), (1, 2, 1))
        self.assertEqual(word_of(Bonds(PAIRS[2]), (-1, -1)), (1, 2))
        self.assertEqual(word_of(Bonds(PAIRS[6]), (-1, -1)), (1, 2, 1, 2, 1, 2))
        self.assertEqual(word_of(Bonds(SIX), (1,) * 6), ())

    def test_the_first_one_of_the_shortest(self):
        bonds = Bonds(TRIPLES[2])
        self.assertEqual(word_of(bonds, row_of(bonds, (3, 2, 1, 3, 2, 3))), (1, 2, 1, 3, 2, 1))
        self.assertEqual(word_of(bonds, row_of(bonds, (3, 1))), (1, 3))
        self.assertEqual(word_of(bonds, row_of(bonds, (2, 3, 1, 2))), (2, 1, 3, 2))
        self.assertEqual(word_of(bonds, row_of(bonds, (3, 2, 3, 1))), (2, 3, 2, 1))

    def test_words_of_sixty_letters(self):
        bonds = Bonds(PAIRS[0])
        word = (2, 1) * 30
        self.assertEqual(word_of(bonds, row_of(bonds, word)), word)
        triangle = Bonds(TRIPLES[6])
        found = word_of(triangle, row_of(triangle, (3, 2, 1) * 20))
        self.assertEqual(len(found), 60)
        self.assertTrue(alike(triangle, found, (3, 2, 1) * 20))
        free = Bonds(TRIPLES[9])
        word = (3, 1, 2) * 20
        self.assertEqual(word_of(free, row_of(free, word)), word)

    def test_rows_that_only_more_than_sixty_letters_lead_to(self):
        for rows, letters in ((PAIRS[0], (1, 2)), (TRIPLES[9], (1, 2, 3)), (TRIPLES[6], (1, 2, 3))):
            bonds = Bonds(rows)
            long = letters * 60
            row = row_of(bonds, long[:60])
            self.assertEqual(len(word_of(bonds, row)), 60)
            for letter in long[60:]:
                row = press(bonds, row, letter)
                self.refused(bonds, row)

    def test_rows_with_no_way_to_the_first_row(self):
        for bond in BONDS:
            bonds = Bonds(PAIRS[bond])
            for row in (
                (0, 0), (0, 1), (1, 0), (0, -1), (-1, 0), (2, 1), (2, 2), (1, 3), (-2, -2), (-7, 3), (GREAT, 1),
                (-GREAT, -1), (1, -GREAT),
            ):
                with self.subTest(bond=bond, row=row):
                    self.refused(bonds, row)
        endless = Bonds(PAIRS[0])
        for row in ((-1, -1), (1, -1), (-1, 1), (-1, -5), (-1, 2)):
            self.refused(endless, row)
        for number in (0, 2, -2, GREAT):
            self.refused(Bonds(ONE), (number,))
        self.refused(Bonds(SIX), (-1,) * 6)

    def test_small_rows_are_those_of_words_or_refused(self):
        for bond in (2, 3, 4, 6):
            bonds = Bonds(PAIRS[bond])
            told = {row_of(bonds, word): shortest_alike(PAIRS[bond], word)[0] for word in words(2, bond)}
            self.assertEqual(len(told), 2 * bond)
            for row in product(range(-7, 8), repeat=2):
                if row in told:
                    self.assertEqual(word_of(bonds, row), told[row])
                else:
                    self.refused(bonds, row)

    def test_values_that_are_no_row(self):
        bonds = Bonds(PAIRS[3])
        for row in (None, 1, "11", [1, 1], [-1, 2], (), (1,), (1, 1, 1), {}, ((1, 1),), (1, "1"), bonds):
            self.refused(bonds, row)
        for number in NO_NUMBERS:
            self.refused(bonds, (number, 1))
            self.refused(bonds, (1, number))
        self.refused(Bonds(ONE), (True,))


class AgainstDeedsTest(unittest.TestCase):
    """Rows tell what deeds alone tell: points [14], [21], [22], [25]."""

    def check(self, rows, most):
        bonds = Bonds(rows)
        classes = {}
        for word in words(len(rows), most):
            shortest = shortest_alike(rows, word)
            row = row_of(bonds, word)
            self.assertEqual(classes.setdefault(row, shortest), shortest)
            self.assertEqual(length(bonds, word), len(shortest[0]))
            self.assertEqual(word_of(bonds, row), shortest[0])
            self.assertEqual(firsts(bonds, word), tuple(sorted({found[0] for found in shortest if found})))
            self.assertEqual(lasts(bonds, word), tuple(sorted({found[-1] for found in shortest if found})))
        leasts = [shortest[0] for shortest in classes.values()]
        self.assertEqual(len(leasts), len(set(leasts)))

    def test_one_letter(self):
        self.check(ONE, 5)

    def test_two_letters(self):
        for bond in BONDS:
            with self.subTest(bond=bond):
                self.check(PAIRS[bond], 8)

    def test_three_letters(self):
        for rows in TRIPLES:
            with self.subTest(rows=rows):
                self.check(rows, 5)

    def test_six_letters(self):
        self.check(SIX, 3)

    def test_longer_words(self):
        for rows in (TRIPLES[2], TRIPLES[3], TRIPLES[6], table(4, b12=3, b23=3, b34=3), table(4, b12=3, b13=3, b14=3)):
            bonds = Bonds(rows)
            for seed in range(20):
                word = tuple((at * at * seed + at * seed + seed // 3) % 11 % len(rows) + 1 for at in range(9))
                shortest = shortest_alike(rows, word)
                self.assertEqual(word_of(bonds, row_of(bonds, word)), shortest[0])
                self.assertEqual(length(bonds, word), len(shortest[0]))


class LengthTest(unittest.TestCase):

    def test_letters_that_undo_themselves(self):
        for rows in (ONE, SIX, PAIRS[0], PAIRS[3]):
            bonds = Bonds(rows)
            for word in ((), (1, 1), (1,) * 60):
                self.assertEqual((length(bonds, word), firsts(bonds, word), lasts(bonds, word)), (0, (), ()))
            self.assertEqual((length(bonds, (1,) * 59), firsts(bonds, (1,) * 59)), (1, (1,)))
        bonds = Bonds(PAIRS[0])
        self.assertEqual(length(bonds, (1, 2, 2, 1, 2, 1)), 2)
        self.assertEqual(firsts(bonds, (1, 2, 2, 1, 2, 1)), (2,))
        self.assertEqual(lasts(bonds, (1, 2, 2, 1, 2, 1)), (1,))

    def test_sixty_letters(self):
        bonds = Bonds(PAIRS[0])
        self.assertEqual(length(bonds, [1, 2] * 30), 60)
        self.assertEqual(firsts(bonds, [1, 2] * 30), (1,))
        self.assertEqual(lasts(bonds, [1, 2] * 30), (2,))
        self.assertEqual(length(Bonds(PAIRS[6]), [1, 2] * 30), 0)
        self.assertEqual(length(Bonds(PAIRS[4]), [1, 2] * 30), 4)

    def test_longest_words_end_and_begin_with_all_letters(self):
        tables = {
            15: table(5, b12=3, b23=3, b34=3, b45=3), 24: table(4, b12=3, b23=4, b34=3),
            36: table(6, b13=3, b34=3, b24=3, b45=3, b56=3), 12: table(4, b12=3, b23=3, b24=3),
        }
        for letters, rows in tables.items():
            bonds = Bonds(rows)
            all_letters = tuple(range(1, len(rows) + 1))
            word = ()
            while lasts(bonds, word) != all_letters:
                word += (min(set(all_letters) - set(lasts(bonds, word))),)
            self.assertEqual((len(word), length(bonds, word)), (letters, letters))
            self.assertEqual(firsts(bonds, word), all_letters)

    def test_words_gone_the_other_way(self):
        for rows in TRIPLES:
            bonds = Bonds(rows)
            for word in words(3, 4):
                back = word[::-1]
                self.assertEqual(firsts(bonds, back), lasts(bonds, word))
                self.assertEqual(lasts(bonds, back), firsts(bonds, word))
                self.assertEqual(length(bonds, back), length(bonds, word))

    def test_a_letter_more_or_a_letter_less(self):
        bonds = Bonds(TRIPLES[10])
        for word in words(3, 5):
            row = row_of(bonds, word)
            self.assertNotIn(0, row)
            for letter in (1, 2, 3):
                step = -1 if row[letter - 1] < 0 else 1
                self.assertEqual(length(bonds, word + (letter,)), length(bonds, word) + step)
                self.assertEqual(letter in lasts(bonds, word), step < 0)


class AlikeTest(unittest.TestCase):

    def test_turns(self):
        for bond in (2, 3, 4, 6):
            bonds = Bonds(PAIRS[bond])
            for many in range(1, 7):
                one, other = ((1, 2) * 3)[:many], ((2, 1) * 3)[:many]
                self.assertIs(alike(bonds, one, other), many % bond == 0)
        for many in range(1, 61):
            self.assertIs(alike(Bonds(PAIRS[0]), ([1, 2] * 30)[:many], ([2, 1] * 30)[:many]), False)

    def test_letters_that_undo_themselves(self):
        bonds = Bonds(SIX)
        self.assertIs(alike(bonds, (), (4, 4)), True)
        self.assertIs(alike(bonds, [1, 2, 2, 3], (1, 3)), True)
        self.assertIs(alike(bonds, (1,), ()), False)
        self.assertIs(alike(bonds, (6, 5, 6), (5, 6, 5)), True)
        self.assertIs(alike(bonds, (1, 2), (2, 1)), False)

    def test_words_gone_the_other_way_stay_alike(self):
        bonds = Bonds(TRIPLES[3])
        some = list(words(3, 3))
        for one in some:
            for other in some:
                told = shortest_alike(TRIPLES[3], one) == shortest_alike(TRIPLES[3], other)
                self.assertIs(alike(bonds, one, other), told)
                self.assertIs(alike(bonds, one[::-1], other[::-1]), told)


if __name__ == "__main__":
    unittest.main()
