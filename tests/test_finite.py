"""Finite and endless bonds: which are, their witnesses, the longest word, and what hangs together."""

import unittest
from itertools import combinations, permutations, product
from unittest.mock import ANY

from bondwords.bonds import Bonds
from bondwords.choices import choices_of
from bondwords.errors import Endless
from bondwords.finite import hangs_together, is_finite, is_witness, longest, pieces, witness
from bondwords.rows import firsts, lasts, press, row_of
from bondwords.shortest import is_shortest, least_word
from bondwords.under import is_below
from refusals import RefusalCase
from samples import BONDS, ENDLESS, FINITE, GREAT, ONE, PAIRS, SIX, TRIPLES, WEIGHTS, some_word, table

PATH_OF_FIVE = table(5, b12=3, b23=3, b34=3, b45=3)
# What is no witness of two letters with whatever bond.
NO_WITNESSES = (
    None, 0, 1, True, False, "", "finite", "endless", b"finite", (), [], {}, {"finite": (1, 1)}, Bonds(ONE), range(2),
    ("finite",), ("endless",), ("finite", None), ("finite", ()), ("finite", 1), ("finite", "11"), ("finite", True),
    ("finite", (1,)), ("finite", (1, 1, 1)), ("finite", (1, 1), ()), ("finite", (1, 2), (1, 1)), ["finite", (1, 1)],
    ("finite", [1, 1]), ("finite", {1: 1, 2: 1}), ("finite", (1, None)), ("finite", (1, "1")), ("finite", (1, (1,))),
    ("finite", (0, 0)), ("finite", (0, 1)), ("finite", (1, 0)), ("finite", (-1, -1)), ("finite", (-1, 1)),
    ("finite", (GREAT, -GREAT)), ("finite", (True, True)), ("finite", (True, 1)), ("finite", (1, True)),
    ("finite", range(1, 3)), ("finite", ((1, 1),)), ("Finite", (1, 1)), ("finite ", (1, 1)), ("", (1, 1)),
    (None, (1, 1)), (b"finite", (1, 1)), (("finite",), (1, 1)), ((1, 1), "finite"), (1, 1), ((1, 1),), ("in", 0, 1),
    ("letter", 1, 1, -1),
    ("endless", ()), ("endless", (), ()), ("endless", (1, 2)), ("endless", (1, 1)), ("endless", None, None),
    ("endless", (1, 2), ()), ("endless", (1, 2), (1,)), ("endless", (1, 2), (1, 1, 1)), ("endless", (1, 2), None),
    ("endless", (1, 2), (1, 1), ()), ("endless", (1, 2), (1, 1), (1, 1)), ["endless", (1, 2), (1, 1)],
    ("endless", [1, 2], (1, 1)), ("endless", (1, 2), [1, 1]), ("endless", (2, 1), (1, 1)), ("endless", (1, 1), (1, 1)),
    ("endless", (1, 3), (1, 1)), ("endless", (0, 1), (1, 1)), ("endless", (1, 2, 3), (1, 1, 1)),
    ("endless", (True, 2), (1, 1)), ("endless", (1, 2), (True, True)), ("endless", (1, 2), (1, True)),
    ("endless", (1, 2), (0, 0)), ("endless", (1, 2), (0, 1)), ("endless", (1, 2), (1, 0)),
    ("endless", (1, 2), (-1, -1)),
    ("endless", (1, 2), (1, None)), ("endless", (1, 2), ("1", "1")), ("endless", (1,), (1,)), ("endless", (2,), (2,)),
    ("endless", (1,), (0,)), ("endless", (), (1,)), ("endless", {1, 2}, (1, 1)), ("endless", "12", (1, 1)),
    ("Endless", (1, 2), (1, 1)), ("endless\n", (1, 2), (1, 1)), (None, (1, 2), (1, 1)), (("endless",), (1, 2), (1, 1)),
    ("finite", (1, 2), (1, 1)), ((1, 2), (1, 1)), ("endless", ((1, 2), (1, 1))),
    ANY, (ANY, (1, 1)), (ANY, (1, 2), (1, 1)), ("finite", ANY), ("finite", (1, ANY)), ("endless", ANY, (1, 1)),
    ("endless", (1, 2), ANY), ("endless", (ANY, 2), (1, 1)), ("endless", (1, 2), (ANY, ANY)),
)


def told_weight(rows, one, other):
    """w(one, other), as point [12] tells it."""
    up, down = WEIGHTS[rows[min(one, other) - 1][max(one, other) - 1]]
    return up if one < other else down


def told_strains(rows, choice, measure):
    """What point [42] says of strains."""
    numbers = dict(zip(choice, measure))
    told = []
    for letter in choice:
        others = [other for other in choice if other != letter]
        told.append(2 * numbers[letter] - sum(told_weight(rows, other, letter) * numbers[other] for other in others))
    return told


def told_hanging(rows, choice):
    """What point [42] says of hanging together: no split of the choice has bonds of 2 alone between its sides."""
    for many in range(1, len(choice)):
        for side in combinations(choice, many):
            others = [letter for letter in choice if letter not in side]
            if all(rows[one - 1][other - 1] == 2 for one in side for other in others):
                return False
    return len(choice) > 0


def told_witness(rows, choice, measure, kind):
    """Whether a choice and numbers show that bonds are of a kind."""
    if any(number <= 0 for number in measure):
        return False
    told = told_strains(rows, choice, measure)
    if kind == "finite":
        return min(told) > 0
    return told_hanging(rows, choice) and max(told) <= 0


def few_rows(rows, most):
    """How many rows words have, None for more than most: all are found by pressing, without any other fact."""
    bonds = Bonds(rows)
    found = {(1,) * len(rows)}
    fresh = list(found)
    while fresh and len(found) <= most:
        row = fresh.pop()
        for letter in range(1, len(rows) + 1):
            behind = press(bonds, row, letter)
            if behind not in found:
                found.add(behind)
                fresh.append(behind)
    return len(found) if len(found) <= most else None


def tables(many):
    """All tables of so many letters."""
    pairs = list(combinations(range(1, many + 1), 2))
    for bonds in product(BONDS, repeat=len(pairs)):
        yield table(many, **{f"b{one}{other}": bond for (one, other), bond in zip(pairs, bonds)})


def with_a_greater_bond(rows):
    """Each table that comes of one if one bond becomes greater, none being the greatest."""
    for one, other in combinations(range(len(rows)), 2):
        for bond in BONDS[BONDS.index(rows[one][other]) + 1:]:
            changed = [list(row) for row in rows]
            changed[one][other] = changed[other][one] = bond
            yield changed


def renamed(rows, names):
    """The same bonds with other letters."""
    return tuple(tuple(rows[one][other] for other in names) for one in names)


class FiniteCase(RefusalCase):

    def check(self, rows, finite):
        bonds = Bonds(rows)
        self.assertIs(is_finite(bonds), finite)
        value = witness(bonds)
        self.assertIs(type(value), tuple)
        self.assertIs(is_witness(bonds, value), True)
        self.assertEqual((len(value), value[0]), (2, "finite") if finite else (3, "endless"))
        choice = value[1] if not finite else tuple(range(1, len(rows) + 1))
        self.assertIn(choice, choices_of(bonds))
        self.assertIs(type(value[-1]), tuple)
        self.assertEqual({type(number) for number in value[-1]}, {int})
        self.assertEqual(len(value[-1]), len(choice))
        self.assertTrue(told_witness(rows, choice, value[-1], value[0]))
        self.assertLess(max(value[-1]), 10 ** 900)
        if not finite:
            self.refused(Endless, lambda: longest(bonds))


class IsFiniteTest(FiniteCase):

    def test_all_bonds_of_a_few_letters(self):
        for many in (1, 2, 3):
            for rows in tables(many):
                self.check(rows, few_rows(rows, 48) is not None)

    def test_known_ones(self):
        for rows, many, count in FINITE:
            self.check(rows, True)
        for rows in ENDLESS:
            self.check(rows, False)

    def test_known_ones_with_other_letters(self):
        for known, finite in ((tuple(rows for rows, many, count in FINITE), True), (ENDLESS, False)):
            for rows in known:
                for names in list(permutations(range(len(rows))))[1::17]:
                    self.check(renamed(rows, names), finite)

    def test_known_ones_with_greater_bonds(self):
        finite = {renamed(rows, names) for rows, many, count in FINITE for names in permutations(range(len(rows)))}
        star = table(6, b13=3, b34=3, b24=3, b45=3, b56=3)
        for known in (table(4, b12=3, b23=3, b34=4), table(4, b12=3, b23=4, b34=3), star):
            for rows in with_a_greater_bond(known):
                self.check(rows, tuple(map(tuple, rows)) in finite)
        for rows in ENDLESS:
            for greater in with_a_greater_bond(rows):
                self.assertIs(is_finite(Bonds(greater)), False)
                self.assertEqual(witness(Bonds(greater))[0], "endless")

    def test_many_bonds_of_four_letters(self):
        for rows in list(tables(4))[::13]:
            finite = few_rows(rows, 1152) is not None
            self.check(rows, finite)

    def test_two_pieces_of_which_one_is_endless(self):
        for rows in (table(3, b12=3, b13=0), table(5, b12=6, b34=3, b45=6), table(4, b13=0, b24=4), table(6, b56=0)):
            self.check(rows, False)
        self.assertEqual(witness(Bonds(table(6, b56=0)))[1], (5, 6))
        self.assertEqual(witness(Bonds(table(5, b12=6, b34=3, b45=6)))[1], (3, 4, 5))

    def test_parameter_names(self):
        bonds = Bonds(PAIRS[3])
        self.assertIs(is_finite(bonds=bonds), True)
        self.assertIs(is_witness(value=witness(bonds=bonds), bonds=bonds), True)
        self.assertEqual(longest(bonds=bonds), (1, 2, 1))
        self.assertIs(hangs_together(choice=(1, 2), bonds=bonds), True)
        self.assertEqual(pieces(bonds=bonds), ((1, 2),))


class IsWitnessTest(RefusalCase):

    def test_values_that_are_no_witness(self):
        for bond in BONDS:
            for value in NO_WITNESSES:
                with self.subTest(bond=bond, value=value):
                    self.assertIs(is_witness(Bonds(PAIRS[bond]), value), False)

    def test_all_measures_of_two_letters(self):
        for bond in BONDS:
            bonds = Bonds(PAIRS[bond])
            for measure in product(range(-2, 7), repeat=2):
                for kind, value in (("finite", ("finite", measure)), ("endless", ("endless", (1, 2), measure))):
                    told = told_witness(PAIRS[bond], (1, 2), measure, kind)
                    self.assertIs(is_witness(bonds, value), told, value)

    def test_all_small_measures_of_three_letters(self):
        for rows in TRIPLES:
            bonds = Bonds(rows)
            for choice in choices_of(bonds):
                for measure in product(range(5), repeat=len(choice)):
                    told = len(choice) > 0 and told_witness(rows, choice, measure, "endless")
                    self.assertIs(is_witness(bonds, ("endless", choice, measure)), told)
                    told = len(choice) == 3 and told_witness(rows, choice, measure, "finite")
                    self.assertIs(is_witness(bonds, ("finite", measure)), told)

    def test_one_letter(self):
        for number in (1, 2, GREAT):
            self.assertIs(is_witness(Bonds(ONE), ("finite", (number,))), True)
            self.assertIs(is_witness(Bonds(ONE), ("endless", (1,), (number,))), False)

    def test_the_weights_are_not_changed_for_each_other(self):
        # The strains are 2x - 2y and 2y - x for the bond 4, 2x - 3y and 2y - x for 6.
        for bond, measures in ((4, ((5, 3), (4, 3), (3, 2))), (6, ((5, 3), (7, 4), (9, 5)))):
            for one, other in measures:
                self.assertIs(is_witness(Bonds(PAIRS[bond]), ("finite", (one, other))), True)
                self.assertIs(is_witness(Bonds(PAIRS[bond]), ("finite", (other, one))), False)

    def test_great_numbers(self):
        bonds = Bonds(PAIRS[3])
        self.assertIs(is_witness(bonds, ("finite", (GREAT, GREAT))), True)
        self.assertIs(is_witness(bonds, ("finite", (GREAT, 1))), False)
        self.assertIs(is_witness(bonds, ("finite", (2 * 10 ** 998, 10 ** 998))), False)
        self.assertIs(is_witness(bonds, ("finite", (2 * 10 ** 998 - 1, 10 ** 998))), True)
        bonds = Bonds(PAIRS[0])
        self.assertIs(is_witness(bonds, ("endless", (1, 2), (GREAT, GREAT))), True)
        self.assertIs(is_witness(bonds, ("endless", (1, 2), (GREAT, GREAT - 1))), False)

    def test_choices_that_do_not_hang_together(self):
        rows = table(4, b12=0, b34=0)
        bonds = Bonds(rows)
        self.assertIs(is_witness(bonds, ("endless", (1, 2), (1, 1))), True)
        self.assertIs(is_witness(bonds, ("endless", (3, 4), (7, 7))), True)
        self.assertIs(is_witness(bonds, ("endless", (1, 2, 3, 4), (1, 1, 1, 1))), False)
        self.assertIs(is_witness(bonds, ("endless", (1, 2, 3), (1, 1, 1))), False)

    def test_witnesses_of_other_bonds(self):
        known = [rows for rows, many, count in FINITE] + list(ENDLESS)
        for rows in known[::2]:
            value = witness(Bonds(rows))
            for other in known[::3]:
                choice = value[1] if len(value) == 3 else tuple(range(1, len(value[1]) + 1))
                told = choice[-1] <= len(other) and told_witness(other, choice, value[-1], value[0])
                told = told and (len(value) == 3 or len(other) == len(choice))
                self.assertIs(is_witness(Bonds(other), value), told)

    def test_each_number_matters(self):
        for rows in (PATH_OF_FIVE, table(6, b13=3, b34=3, b24=3, b45=3, b56=3), table(5, b12=4, b23=3, b34=3, b45=4)):
            bonds = Bonds(rows)
            value = witness(bonds)
            for at in range(len(value[-1])):
                for number in (0, -value[-1][at], GREAT):
                    measure = value[-1][:at] + (number,) + value[-1][at + 1:]
                    self.assertIs(is_witness(bonds, (*value[:-1], measure)), False)


class LongestTest(RefusalCase):

    def test_known_ones(self):
        for rows, many, count in FINITE:
            bonds = Bonds(rows)
            word = longest(bonds)
            self.assertIs(type(word), tuple)
            self.assertEqual(len(word), many)
            self.assertTrue(is_shortest(bonds, word))
            self.assertEqual(word, least_word(bonds, word))
            self.assertEqual(lasts(bonds, word), tuple(range(1, len(rows) + 1)))
            self.assertEqual(firsts(bonds, word), tuple(range(1, len(rows) + 1)))
            self.assertEqual(max(row_of(bonds, word)), -1)
            for seed in range(3):
                # Point [54].
                self.assertTrue(is_below(bonds, some_word(len(rows), 60, seed), word))

    def test_by_hand(self):
        self.assertEqual(longest(Bonds(ONE)), (1,))
        self.assertEqual(longest(Bonds(PAIRS[2])), (1, 2))
        self.assertEqual(longest(Bonds(PAIRS[6])), (1, 2, 1, 2, 1, 2))
        self.assertEqual(longest(Bonds(TRIPLES[2])), (1, 2, 1, 3, 2, 1))
        self.assertEqual(longest(Bonds(TRIPLES[3])), (1, 2, 1, 3, 2, 1, 3, 2, 3))
        self.assertEqual(longest(Bonds(table(6))), (1, 2, 3, 4, 5, 6))

    def test_endless_bonds(self):
        for rows in ENDLESS:
            self.refused(Endless, lambda: longest(Bonds(rows)))


class HangingTest(RefusalCase):

    def test_values_that_are_no_choice(self):
        self.refuses_no_choices(lambda choice: hangs_together(Bonds(TRIPLES[2]), choice))

    def test_by_hand(self):
        self.assertIs(hangs_together(Bonds(ONE), ()), False)
        self.assertIs(hangs_together(Bonds(ONE), (1,)), True)
        for bond in BONDS:
            self.assertIs(hangs_together(Bonds(PAIRS[bond]), (1, 2)), bond != 2)
            self.assertIs(hangs_together(Bonds(PAIRS[bond]), (2,)), True)
            self.assertEqual(pieces(Bonds(PAIRS[bond])), ((1,), (2,)) if bond == 2 else ((1, 2),))
        self.assertEqual(pieces(Bonds(ONE)), ((1,),))
        self.assertEqual(pieces(Bonds(table(6))), ((1,), (2,), (3,), (4,), (5,), (6,)))
        self.assertEqual(pieces(Bonds(table(6, b14=0, b46=3, b23=6))), ((1, 4, 6), (2, 3), (5,)))
        self.assertEqual(pieces(Bonds(table(6, b16=3, b65=3, b54=3, b43=3, b32=3))), ((1, 2, 3, 4, 5, 6),))

    def test_all_choices(self):
        some = [rows for rows, many, count in FINITE] + list(ENDLESS) + list(tables(3))
        for rows in some:
            bonds = Bonds(rows)
            hanging = [choice for choice in choices_of(bonds) if told_hanging(rows, choice)]
            for choice in choices_of(bonds):
                self.assertIs(hangs_together(bonds, choice), choice in hanging)
            greatest = [one for one in hanging if not any(set(one) < set(other) for other in hanging)]
            self.assertEqual(pieces(bonds), tuple(sorted(greatest)))

    def test_all_letters_by_letters_of_the_choice_alone(self):
        bonds = Bonds(TRIPLES[2])
        self.assertIs(hangs_together(bonds, (1, 3)), False)
        self.assertIs(hangs_together(bonds, (1, 2, 3)), True)
        self.assertIs(hangs_together(bonds, (2, 3)), True)


if __name__ == "__main__":
    unittest.main()
