"""Shortest words: which are, and the deeds that lead to them and between them."""

import unittest
from itertools import permutations

from bondwords.bonds import Bonds
from bondwords.deeds import walked
from bondwords.errors import BadWord, TooGreat, Unlike
from bondwords.rows import alike, firsts, length, press, row_of
from bondwords.shortest import MOST_LED, is_shortest, least_word, to_shortest, turns_between
from refusals import RefusalCase
from samples import (
    BONDS, LARGE, ONE, PAIRS, PATH_OF_SIX, SIX, TRIPLES, led_to_each_other, shortest_alike, shortest_word, some_word,
    table, told_shrinking, words,
)

def pressed_down(bonds, word, choose):
    """A shortest word that is alike: letters whose numbers are below 0 are pressed, as point [22] tells."""
    row = row_of(bonds, word)
    found = []
    while min(row) < 0:
        found.append(choose([at + 1 for at, number in enumerate(row) if number < 0]))
        row = press(bonds, row, found[-1])
    return tuple(found[::-1])


class ShortestCase(RefusalCase):

    def end_of(self, rows, word, deeds, names):
        """Where deeds lead: each must be one of point [13] that can be done, with such a name."""
        self.assertIs(type(deeds), tuple)
        now = tuple(word)
        for deed in deeds:
            self.assertIn(deed[0], names)
            now = told_shrinking(rows, now)[deed]
        return now

    def led_down(self, rows, word):
        """Where to_shortest leads."""
        return self.end_of(rows, word, to_shortest(Bonds(rows), word), ("turn", "out"))

    def turned_to(self, rows, one, other):
        """That turns_between leads from the one to the other by turns."""
        self.assertEqual(self.end_of(rows, one, turns_between(Bonds(rows), one, other), ("turn",)), tuple(other))


class WrongWordsTest(RefusalCase):

    def test_values_that_are_no_word(self):
        bonds = Bonds(TRIPLES[3])
        for function in (is_shortest, least_word, to_shortest):
            self.refuses_no_words(lambda word: function(bonds, word))
        for other in ((), (1,) * 17, (1,) * 60, None, [4], [1] * 61):
            self.refuses_no_words(lambda word: turns_between(bonds, word, other))
        for one in ((), (1,), (1, 1), (1,) * 17, (1,) * 60):
            self.refuses_no_words(lambda word: turns_between(bonds, one, word))

    def test_the_first_of_two_words_that_are_none(self):
        bonds = Bonds(PAIRS[3])
        self.refused(BadWord, lambda: turns_between(bonds, [1, 3], [0]), place=1)
        self.refused(BadWord, lambda: turns_between(bonds, [0], [1] * 61), place=0)
        self.refused(TooGreat, lambda: turns_between(bonds, [1] * 61, [0]), most=60)


class CallsTest(RefusalCase):

    def test_most_led(self):
        self.assertEqual(MOST_LED, 16)

    def test_arguments_are_not_changed(self):
        bonds = Bonds(PAIRS[3])
        one, other = [1, 2, 1], [2, 1, 2]
        turns_between(bonds, one, other)
        for function in (is_shortest, least_word, to_shortest):
            function(bonds, one)
        self.assertEqual((one, other), ([1, 2, 1], [2, 1, 2]))

    def test_lists_and_tuples_are_equal_here(self):
        bonds = Bonds(PAIRS[3])
        for word in words(2, 5):
            for function in (is_shortest, least_word, to_shortest):
                self.assertEqual(function(bonds, list(word)), function(bonds, word))
        self.assertEqual(turns_between(bonds, [1, 2, 1], [2, 1, 2]), turns_between(bonds, (1, 2, 1), (2, 1, 2)))

    def test_parameter_names(self):
        bonds = Bonds(PAIRS[3])
        self.assertIs(is_shortest(word=[1, 1], bonds=bonds), False)
        self.assertEqual(least_word(word=[2, 1, 2], bonds=bonds), (1, 2, 1))
        self.assertEqual(to_shortest(word=[1, 1], bonds=bonds), (("out", 0),))
        self.assertEqual(turns_between(other=[1, 2, 1], one=[2, 1, 2], bonds=bonds), (("turn", 0),))


class IsShortestTest(RefusalCase):

    def test_by_hand(self):
        bonds = Bonds(TRIPLES[2])
        for word in ((), (1,), (3, 1), (1, 2, 1), (1, 2, 1, 3, 2, 1)):
            self.assertIs(is_shortest(bonds, word), True)
        for word in ((1, 1), (1, 2, 2), (1, 3, 1), (1, 2, 1, 2), (1, 2, 1, 3, 2, 1, 3)):
            self.assertIs(is_shortest(bonds, word), False)

    def test_long_words(self):
        for many in range(55, 61):
            self.assertIs(is_shortest(Bonds(PAIRS[0]), ([1, 2] * 30)[:many]), True)
            self.assertIs(is_shortest(Bonds(TRIPLES[6]), ([1, 2, 3] * 20)[:many]), True)
            self.assertIs(is_shortest(Bonds(PAIRS[6]), ([1, 2] * 30)[:many]), False)
            self.assertIs(is_shortest(Bonds(ONE), [1] * many), False)
        self.assertIs(is_shortest(Bonds(PAIRS[0]), [1, 2] * 29 + [2, 1]), False)

    def test_least_words_by_hand(self):
        self.assertEqual(least_word(Bonds(SIX), ()), ())
        self.assertEqual(least_word(Bonds(TRIPLES[0]), [3, 2, 1, 2, 1]), (3,))
        self.assertEqual(least_word(Bonds(TRIPLES[2]), [3, 2, 3, 1, 2, 1]), (2, 1, 3, 2))
        self.assertEqual(least_word(Bonds(TRIPLES[2]), [3, 2, 1, 3, 2, 3]), (1, 2, 1, 3, 2, 1))
        self.assertEqual(least_word(Bonds(PAIRS[0]), [2, 1] * 30), (2, 1) * 30)
        self.assertEqual(least_word(Bonds(PAIRS[6]), [2, 1] * 30), ())


class AgainstDeedsTest(ShortestCase):
    """Points [14], [23] and [24]: all words of a few letters, and what deeds alone lead to."""

    def check(self, rows, most):
        bonds = Bonds(rows)
        for found in led_to_each_other(rows, most):
            least = min(len(word) for word in found)
            shortest = sorted(word for word in found if len(word) == least)
            self.assertEqual(shortest, shortest_alike(rows, found[-1]))
            for word in found:
                self.assertIs(is_shortest(bonds, word), word in shortest)
                self.assertEqual(least_word(bonds, word), shortest[0])
                self.assertIn(self.led_down(rows, word), shortest)
            for word in shortest:
                self.assertEqual(to_shortest(bonds, word), ())
                self.turned_to(rows, word, shortest[-1])
                self.turned_to(rows, shortest[0], word)

    def test_one_letter(self):
        self.check(ONE, 6)

    def test_two_letters(self):
        for bond in BONDS:
            self.check(PAIRS[bond], 8)

    def test_three_letters(self):
        for rows in TRIPLES:
            self.check(rows, 5)
        self.check(TRIPLES[2], 7)

    def test_four_letters(self):
        self.check(table(4, b12=3, b23=3, b34=3), 5)
        self.check(table(4, b12=3, b13=4, b14=6), 4)

    def test_six_letters(self):
        self.check(SIX, 3)


class ToShortestTest(ShortestCase):

    def test_letters_that_undo_themselves(self):
        for rows in (ONE, PAIRS[0], PAIRS[3]):
            bonds = Bonds(rows)
            self.assertEqual(to_shortest(bonds, ()), ())
            self.assertEqual(to_shortest(bonds, [1]), ())
            for many in range(17):
                self.assertEqual(len(to_shortest(bonds, [1] * many)), many // 2)
                self.assertEqual(self.led_down(rows, [1] * many), (1,) * (many % 2))

    def test_turns_are_needed(self):
        self.assertEqual(to_shortest(Bonds(PAIRS[2]), (1, 2, 1)), (("turn", 0), ("out", 1)))
        self.assertEqual(self.led_down(PAIRS[2], (1, 2, 1)), (2,))
        self.assertEqual(self.led_down(PAIRS[3], (1, 2, 1, 2)), (2, 1))
        self.assertEqual(self.led_down(PAIRS[6], (1, 2) * 8), (1, 2, 1, 2))
        self.assertIn(self.led_down(TRIPLES[2], (1, 2, 3, 2, 1, 3)), ((1, 3, 2, 1), (3, 1, 2, 1), (3, 2, 1, 2)))

    def test_sixteen_letters(self):
        for rows in LARGE + TRIPLES:
            bonds = Bonds(rows)
            for seed in range(30):
                word = some_word(len(rows), 16, seed)
                end = self.led_down(rows, word)
                self.assertEqual(len(end), length(bonds, word))
                self.assertTrue(alike(bonds, end, word))

    def test_sixteen_letters_that_all_go_out(self):
        for rows in LARGE:
            bonds = Bonds(rows)
            for seed in range(10):
                half = shortest_word(bonds, 8, seed)
                word = half + pressed_down(bonds, half[::-1], max)
                self.assertEqual(len(word), 16)
                self.assertEqual(self.led_down(rows, word), ())

    def test_too_many_letters(self):
        for many in (17, 18, 59, 60):
            for word in ([1] * many, ((1, 2) * 30)[:many]):
                for rows in (PAIRS[0], PAIRS[3]):
                    self.refused(TooGreat, lambda: to_shortest(Bonds(rows), word), most=16)


class TurnsBetweenTest(ShortestCase):

    def test_a_word_and_itself(self):
        for rows in LARGE:
            for many in (0, 1, 5, 16):
                word = shortest_word(Bonds(rows), many, many)
                self.assertEqual(turns_between(Bonds(rows), word, list(word)), ())

    def test_the_two_ends_of_a_stretch(self):
        for bond in (2, 3, 4, 6):
            one, other = ((1, 2) * 3)[:bond], ((2, 1) * 3)[:bond]
            self.assertEqual(turns_between(Bonds(PAIRS[bond]), one, other), (("turn", 0),))
            self.assertEqual(turns_between(Bonds(PAIRS[bond]), other, one), (("turn", 0),))
            rows = table(3, b12=bond)
            self.turned_to(rows, (3,) + one, other + (3,))

    def test_words_of_sixteen_letters_that_are_far_apart(self):
        for rows in LARGE:
            bonds = Bonds(rows)
            for seed in range(20):
                word = shortest_word(bonds, 16, seed)
                ends = [pressed_down(bonds, word, min), pressed_down(bonds, word, max), least_word(bonds, word)]
                ends.append(pressed_down(bonds, word[::-1], min)[::-1])
                for one, other in permutations(ends, 2):
                    self.assertTrue(is_shortest(bonds, one))
                    self.turned_to(rows, one, other)

    def test_a_word_that_all_letters_can_end(self):
        rows = PATH_OF_SIX
        one, other = (1, 2, 1, 3, 2, 1, 4, 3, 2, 1, 5, 4, 3, 2, 1), (5, 4, 5, 3, 4, 5, 2, 3, 4, 5, 1, 2, 3, 4, 5)
        self.turned_to(rows, one, other)
        self.turned_to(rows, other, one)
        self.turned_to(rows, one, one[::-1])
        self.turned_to(rows, one + (6,), other + (6,))

    def test_too_many_letters(self):
        bonds = Bonds(PAIRS[0])
        for many in (17, 18, 60):
            long = ((1, 2) * 30)[:many]
            for other in (long, (), (1,), (2, 2), (1,) * 17, long[::-1]):
                self.refused(TooGreat, lambda: turns_between(bonds, long, other), most=16)
                self.refused(TooGreat, lambda: turns_between(bonds, other, long), most=16)
        self.refused(Unlike, lambda: turns_between(bonds, (1, 2) * 8, (2, 1) * 8))
        self.assertEqual(turns_between(bonds, (1, 2) * 8, (1, 2) * 8), ())

    def test_words_that_are_not_alike(self):
        bonds = Bonds(TRIPLES[2])
        for one, other in (((), (1,)), ((1, 2), (2, 1)), ((1, 2, 1), (1, 2, 3)), ((1, 1), (2,)), ((1,), (1, 2))):
            self.refused(Unlike, lambda: turns_between(bonds, one, other))
            self.refused(Unlike, lambda: turns_between(bonds, other, one))

    def test_words_that_are_alike_and_not_shortest(self):
        bonds = Bonds(TRIPLES[2])
        for one, other in (
            ((), (1, 1)), ((2,), (1, 2, 1, 2, 1)), ((1, 3), (3, 2, 2, 1)), ((1, 1), (2, 2)), ((1, 1), (1, 1)),
            ((1, 2, 1), (2, 1, 2, 3, 3)),
        ):
            self.assertTrue(alike(bonds, one, other))
            self.refused(Unlike, lambda: turns_between(bonds, one, other))
            self.refused(Unlike, lambda: turns_between(bonds, other, one))


class FactsTest(RefusalCase):

    def test_one_comes_back_in_any_order(self):
        """Point [22]."""
        for rows in TRIPLES + LARGE:
            bonds = Bonds(rows)
            for seed in range(10):
                word = some_word(len(rows), 12, seed)
                for choose in (min, max, lambda low: low[len(low) // 2]):
                    found = pressed_down(bonds, word, choose)
                    self.assertEqual(len(found), length(bonds, word))
                    self.assertTrue(alike(bonds, found, word))

    def test_words_gone_the_other_way(self):
        """Point [25]."""
        for rows in TRIPLES + LARGE:
            bonds = Bonds(rows)
            for seed in range(10):
                word = some_word(len(rows), 9, seed)
                end = walked(bonds, word, to_shortest(bonds, word))
                self.assertTrue(is_shortest(bonds, end[::-1]))
                self.assertTrue(alike(bonds, end[::-1], word[::-1]))
                self.assertEqual(is_shortest(bonds, word), is_shortest(bonds, word[::-1]))

    def test_two_letters_with_which_shortest_words_begin(self):
        """Point [26]."""
        for rows in TRIPLES:
            bonds = Bonds(rows)
            for word in words(3, 5):
                shortest = shortest_alike(rows, word)
                for one, other in permutations(firsts(bonds, word), 2):
                    bond = bonds.bond(one, other)
                    self.assertNotEqual(bond, 0)
                    front = ((one, other) * 3)[:bond]
                    self.assertTrue(any(found[:bond] == front for found in shortest))


if __name__ == "__main__":
    unittest.main()
