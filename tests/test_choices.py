"""Choices of letters: what is one, words ahead of, behind and within them, and the parts of words by them."""

import unittest
from itertools import combinations, product

from bondwords.bonds import Bonds
from bondwords.choices import (
    choices_of, is_ahead, is_behind, is_choice, is_within, least_between, parted, parted_ahead,
)
from bondwords.errors import BadChoice, BadWord, TooGreat
from bondwords.rows import alike, firsts, lasts, length
from bondwords.shortest import is_shortest, least_word
from refusals import RefusalCase
from samples import (
    BONDS, LARGE, NO_CHOICES, ONE, PAIRS, PATH_OF_SIX, SIX, TRIPLES, least_alike, shortest_alike, some_word, table,
    words,
)

OF_ONE_CHOICE = (is_ahead, is_behind, is_within, parted, parted_ahead)


def told_choices(many):
    """All choices of so many letters, those with fewer letters first, else ascending."""
    return [choice for count in range(many + 1) for choice in combinations(range(1, many + 1), count)]


class WrongArgumentsTest(RefusalCase):

    def test_values_that_are_no_word(self):
        bonds = Bonds(TRIPLES[3])
        for choice in ((), (1, 3), None, [1], (4,), (2, 1)):
            for function in OF_ONE_CHOICE:
                self.refuses_no_words(lambda word: function(bonds, word, choice))
            self.refuses_no_words(lambda word: least_between(bonds, choice, word, (1,)))
            self.refuses_no_words(lambda word: least_between(bonds, (1,), word, choice))

    def test_values_that_are_no_choice(self):
        bonds = Bonds(TRIPLES[3])
        for word in ((), [1], (1, 2, 3) * 20):
            for function in OF_ONE_CHOICE:
                self.refuses_no_choices(lambda choice: function(bonds, word, choice))
            self.refuses_no_choices(lambda choice: least_between(bonds, choice, word, (1,)))
            self.refuses_no_choices(lambda choice: least_between(bonds, (1,), word, choice))

    def test_the_first_of_two_choices_that_are_none(self):
        bonds = Bonds(PAIRS[3])
        self.refused(BadChoice, lambda: least_between(bonds, (3,), (1,), (2, 1)), value=(3,))
        self.refused(BadChoice, lambda: least_between(bonds, None, (1,), (2, 1)), value=None)
        self.refused(BadChoice, lambda: least_between(bonds, (2,), (1,), [2, 1]), value=[2, 1])
        self.refused(BadWord, lambda: least_between(bonds, (3,), (3,), [2, 1]), place=0)
        self.refused(TooGreat, lambda: least_between(bonds, (3,), (3,) * 61, None), most=60)

    def test_parameter_names(self):
        bonds = Bonds(PAIRS[3])
        self.assertIs(is_choice(value=(1,), bonds=bonds), True)
        self.assertEqual(choices_of(bonds=bonds), ((), (1,), (2,), (1, 2)))
        self.assertIs(is_ahead(choice=(1,), word=[2, 1], bonds=bonds), False)
        self.assertIs(is_behind(choice=(1,), word=[2, 1], bonds=bonds), True)
        self.assertIs(is_within(choice=(1,), word=[2, 1], bonds=bonds), False)
        self.assertEqual(parted(choice=(1,), word=[2, 1], bonds=bonds), ((2,), (1,)))
        self.assertEqual(parted_ahead(choice=(1,), word=[2, 1], bonds=bonds), ((), (2, 1)))
        self.assertEqual(least_between(right=(), word=[2, 1], left=(2,), bonds=bonds), (1,))

    def test_lists_are_taken_and_not_changed(self):
        bonds = Bonds(TRIPLES[2])
        for word in words(3, 3):
            given = list(word)
            for function in OF_ONE_CHOICE:
                self.assertEqual(function(bonds, given, (1, 3)), function(bonds, word, (1, 3)))
            self.assertEqual(least_between(bonds, (1,), given, (2,)), least_between(bonds, (1,), word, (2,)))
            self.assertEqual(given, list(word))


class ChoicesTest(unittest.TestCase):

    def test_values_that_are_no_choice(self):
        for value in NO_CHOICES:
            with self.subTest(value=value):
                self.assertIs(is_choice(Bonds(TRIPLES[2]), value), False)
        self.assertIs(is_choice(Bonds(ONE), (2,)), False)
        self.assertIs(is_choice(Bonds(SIX), (1, 2, 3, 4, 5, 6, 7)), False)
        self.assertIs(is_choice(Bonds(SIX), (1, 2, 4, 3, 5, 6)), False)

    def test_all_tuples_of_a_few_numbers(self):
        for rows in (ONE, PAIRS[0], TRIPLES[3]):
            bonds = Bonds(rows)
            told = told_choices(len(rows))
            for many in range(5):
                for value in product(range(-1, 5), repeat=many):
                    self.assertIs(is_choice(bonds, value), value in told)

    def test_their_order(self):
        self.assertEqual(choices_of(Bonds(ONE)), ((), (1,)))
        self.assertEqual(
            choices_of(Bonds(TRIPLES[6])), ((), (1,), (2,), (3,), (1, 2), (1, 3), (2, 3), (1, 2, 3)),
        )
        for many in range(1, 7):
            self.assertEqual(choices_of(Bonds(table(many))), tuple(told_choices(many)))
        self.assertTrue(all(is_choice(Bonds(SIX), choice) for choice in choices_of(Bonds(SIX))))


class AgainstDeedsTest(RefusalCase):

    def parts(self, rows, front, rest):
        """That two words are least shortest ones; the word that they make, and the letters that they have."""
        for part in (front, rest):
            self.assertIs(type(part), tuple)
            self.assertEqual(part, least_alike(rows, part))
        return least_alike(rows, front + rest), len(front) + len(rest)

    def check(self, rows, most):
        bonds = Bonds(rows)
        for word in words(len(rows), most):
            shortest = shortest_alike(rows, word)
            for choice in told_choices(len(rows)):
                ahead = not any(found and found[-1] in choice for found in shortest)
                self.assertIs(is_ahead(bonds, word, choice), ahead)
                behind = not any(found and found[0] in choice for found in shortest)
                self.assertIs(is_behind(bonds, word, choice), behind)
                self.assertIs(is_within(bonds, word, choice), set(shortest[-1]) <= set(choice))
                pair = parted(bonds, word, choice)
                self.assertIs(type(pair), tuple)
                front, rest = pair
                self.assertEqual(self.parts(rows, front, rest), (shortest[0], len(shortest[0])))
                self.assertFalse(any(found and found[-1] in choice for found in shortest_alike(rows, front)))
                self.assertLessEqual(set(rest), set(choice))
                pair = parted_ahead(bonds, word, choice)
                self.assertIs(type(pair), tuple)
                rest, front = pair
                self.assertEqual(self.parts(rows, rest, front), (shortest[0], len(shortest[0])))
                self.assertFalse(any(found and found[0] in choice for found in shortest_alike(rows, front)))
                self.assertLessEqual(set(rest), set(choice))

    def test_one_letter(self):
        self.check(ONE, 5)

    def test_two_letters(self):
        for bond in BONDS:
            self.check(PAIRS[bond], 6)

    def test_three_letters(self):
        for rows in TRIPLES:
            self.check(rows, 4)

    def test_four_letters(self):
        self.check(table(4, b12=3, b23=3, b34=4), 3)
        self.check(table(4, b12=0, b13=3, b24=6), 3)


class LongWordsTest(RefusalCase):

    def test_parts_of_long_words(self):
        for rows in LARGE:
            bonds = Bonds(rows)
            for seed, choice in enumerate(told_choices(len(rows))[::5]):
                word = some_word(len(rows), 60 - seed, seed)
                front, rest = parted(bonds, word, choice)
                self.assertTrue(alike(bonds, front + rest, word))
                self.assertEqual(len(front) + len(rest), length(bonds, word))
                self.assertEqual((front, rest), (least_word(bonds, front), least_word(bonds, rest)))
                self.assertTrue(is_ahead(bonds, front, choice))
                self.assertFalse(set(lasts(bonds, front)) & set(choice))
                self.assertTrue(is_within(bonds, rest, choice))
                rest, front = parted_ahead(bonds, word, choice)
                self.assertTrue(alike(bonds, rest + front, word))
                self.assertEqual(len(front) + len(rest), length(bonds, word))
                self.assertEqual((front, rest), (least_word(bonds, front), least_word(bonds, rest)))
                self.assertTrue(is_behind(bonds, front, choice))
                self.assertFalse(set(firsts(bonds, front)) & set(choice))
                self.assertTrue(is_within(bonds, rest, choice))

    def test_no_letters_and_all_letters(self):
        for rows in LARGE:
            bonds = Bonds(rows)
            word = some_word(len(rows), 50, 3)
            least = least_word(bonds, word)
            everything = tuple(range(1, len(rows) + 1))
            self.assertEqual(parted(bonds, word, ()), (least, ()))
            self.assertEqual(parted_ahead(bonds, word, ()), ((), least))
            self.assertEqual(parted(bonds, word, everything), ((), least))
            self.assertEqual(parted_ahead(bonds, word, everything), (least, ()))
            self.assertIs(is_ahead(bonds, word, ()), True)
            self.assertIs(is_behind(bonds, word, ()), True)
            self.assertIs(is_within(bonds, word, ()), least == ())
            self.assertIs(is_ahead(bonds, word, everything), least == ())
            self.assertIs(is_behind(bonds, word, everything), least == ())
            self.assertIs(is_within(bonds, word, everything), True)
            self.assertEqual(least_between(bonds, (), word, ()), least)
            self.assertEqual(least_between(bonds, everything, word, ()), ())
            self.assertEqual(least_between(bonds, (), word, everything), ())
            self.assertEqual(least_between(bonds, everything, (), everything), ())

    def test_words_that_undo_themselves(self):
        bonds = Bonds(PAIRS[0])
        word = (1, 2) * 15 + (2, 1) * 15
        self.assertEqual(parted(bonds, word, (1,)), ((), ()))
        self.assertIs(is_within(bonds, word, ()), True)
        self.assertIs(is_ahead(bonds, word, (1, 2)), True)
        self.assertEqual(parted_ahead(bonds, (1,) * 59, (1,)), ((1,), ()))
        self.assertEqual(parted_ahead(bonds, (1,) * 59, (2,)), ((), (1,)))


class LeastBetweenTest(RefusalCase):

    def check(self, rows, most, within):
        """Against all that words of a few letters within the choices give; within tells how many are needed."""
        bonds = Bonds(rows)
        choices = told_choices(len(rows))
        different = {least_alike(rows, word) for word in words(len(rows), within)}
        sides = {choice: [side for side in different if set(side) <= set(choice)] for choice in choices}
        for word in words(len(rows), most):
            for left, right in product(choices, choices):
                all_between = {
                    least_alike(rows, one + word + other) for one, other in product(sides[left], sides[right])
                }
                fewest = min(len(found) for found in all_between)
                told = [found for found in all_between if len(found) == fewest]
                # Point [52].
                self.assertEqual(len(told), 1)
                self.assertEqual(least_between(bonds, left, word, right), told[0])

    def test_two_letters(self):
        for bond in BONDS:
            self.check(PAIRS[bond], 4, 4)

    def test_three_letters(self):
        self.check(TRIPLES[2], 2, 3)
        self.check(TRIPLES[8], 2, 3)

    def test_by_hand(self):
        bonds = Bonds(TRIPLES[2])
        self.assertEqual(least_between(bonds, (1,), (1, 2, 3), (3,)), (2,))
        self.assertEqual(least_between(bonds, (1, 2), (1, 2, 3, 1, 2), (1, 2)), (3,))
        self.assertEqual(least_between(bonds, (1, 2), (3, 2, 1), (2, 3)), (3, 2, 1))
        self.assertEqual(least_between(bonds, (2, 3), (3, 2, 1), (1, 2)), ())
        self.assertEqual(least_between(bonds, (1,), (2, 1, 3), (2,)), (2, 1, 3))
        self.assertEqual(least_between(bonds, (2,), (2, 1, 3), (1,)), (3,))
        self.assertEqual(least_between(bonds, (1, 3), (3, 1), ()), ())

    def test_both_sides_of_long_words(self):
        for rows in LARGE:
            bonds = Bonds(rows)
            choices = told_choices(len(rows))
            for seed in range(12):
                left, right = choices[seed * 5 % len(choices)], choices[seed * 11 % len(choices)]
                word = some_word(len(rows), 40, seed)
                least = least_between(bonds, left, word, right)
                self.assertIs(type(least), tuple)
                self.assertTrue(is_shortest(bonds, least))
                self.assertEqual(least, least_word(bonds, least))
                self.assertTrue(is_behind(bonds, least, left))
                self.assertTrue(is_ahead(bonds, least, right))
                one = tuple(letter for letter in some_word(len(rows), 30, seed + 1) if letter in left)[:9]
                other = tuple(letter for letter in some_word(len(rows), 30, seed + 2) if letter in right)[:9]
                self.assertEqual(least_between(bonds, left, one + word + other, right), least)

    def test_left_and_right_are_not_the_same(self):
        bonds = Bonds(PATH_OF_SIX)
        word = (1, 2, 3, 4, 5, 6)
        self.assertEqual(least_between(bonds, (1, 2, 3), word, ()), (4, 5, 6))
        self.assertEqual(least_between(bonds, (), word, (4, 5, 6)), (1, 2, 3))
        self.assertEqual(least_between(bonds, (4, 5, 6), word, (1, 2, 3)), word)
        self.assertEqual(least_between(bonds, (1, 2), word, (5, 6)), (3, 4))


if __name__ == "__main__":
    unittest.main()
