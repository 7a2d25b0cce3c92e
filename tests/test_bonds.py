"""Bonds: tables that are taken and refused, bonds, weights, equality."""

import unittest

from bondwords.bonds import MOST_LETTERS, MOST_WORD, Bonds
from bondwords.errors import BadBonds, BadNumber, TooGreat
from samples import BONDS, ONE, PAIRS, SIX, TRIPLES, WEIGHTS, table

NO_LETTERS = (0, 4, -1, 7, 10 ** 999, True, False, None, "1", (1,), [1], {}, 1.0)


def changed(rows, one, other, item):
    """The table as lists, with another item in the row of one."""
    lists = [list(row) for row in rows]
    lists[one - 1][other - 1] = item
    return lists


class RefusedTest(unittest.TestCase):

    def refused(self, rows, place):
        with self.assertRaises(BadBonds) as caught:
            Bonds(rows)
        self.assertEqual(caught.exception.place, place)

    def test_no_list_or_tuple(self):
        for rows in (None, 0, 1, True, "1", "", b"1", {}, {1: [1]}, {1}, range(1), object(), iter([[1]]), Bonds(ONE)):
            with self.subTest(rows=rows):
                self.refused(rows, None)

    def test_no_items(self):
        self.refused([], None)
        self.refused((), None)

    def test_more_than_six_items(self):
        square = [[1 if one == other else 2 for other in range(7)] for one in range(7)]
        for rows in (square, tuple(square), [1] * 7, [[]] * 8, [None] * 100):
            with self.subTest(rows=rows), self.assertRaises(TooGreat) as caught:
                Bonds(rows)
            self.assertEqual(caught.exception.most, 6)

    def test_rows_of_a_wrong_shape(self):
        for rows in (
            [[]], [[1, 2]], [[1, 3], [3]], [[1, 3], [3, 1, 2]], [[1], [2, 1]], [[1, 2, 2], [2, 1]],
            [1], ["1"], [None], [{}], [{1}], [[1, 2], "21"], ["12", [2, 1]], [[1, 2], {2: 0, 1: 0}],
            ([1, 3], None), ((1, 3), (3, 1), (3, 1)), [range(1)],
        ):
            with self.subTest(rows=rows):
                self.refused(rows, None)

    def test_shape_is_looked_at_ahead_of_items(self):
        self.refused([[5, 5], [5]], None)
        self.refused([["x", None, 1], [2, 2, 2], 7], None)

    def test_each_place_with_each_wrong_item(self):
        rows = TRIPLES[10]
        wrong = (5, 7, -1, -3, 10 ** 999, True, False, None, "3", (3,), [3], {}, 2.0, 3.0, 1.0, 0.0)
        for one in (1, 2, 3):
            for other in (1, 2, 3):
                for item in wrong:
                    with self.subTest(one=one, other=other, item=item):
                        self.refused(changed(rows, one, other, item), (one, other))

    def test_items_that_stand_elsewhere(self):
        rows = TRIPLES[10]
        for letter in (1, 2, 3):
            for item in BONDS:
                self.refused(changed(rows, letter, letter, item), (letter, letter))
        for one, other in ((1, 2), (1, 3), (2, 3)):
            self.refused(changed(rows, one, other, 1), (one, other))

    def test_a_bond_that_is_told_twice_otherwise_is_wrong_below_the_diagonal(self):
        for one, other in ((2, 1), (3, 1), (3, 2)):
            for item in BONDS + (1,):
                rows = changed(TRIPLES[10], one, other, item)
                if rows[one - 1][other - 1] == rows[other - 1][one - 1]:
                    Bonds(rows)
                else:
                    self.refused(rows, (one, other))
                    self.refused(tuple(tuple(row) for row in rows), (one, other))

    def test_false_and_true_are_no_bonds_though_python_takes_them_for_equal(self):
        self.refused([[1, 0], [False, 1]], (2, 1))
        self.refused([[1, False], [0, 1]], (1, 2))
        self.refused([[True]], (1, 1))

    def test_the_first_wrong_pair(self):
        self.refused([[1, 2, 2], [3, 1, 5], [2, 2, 1]], (2, 1))
        self.refused([[1, 2, 5], [3, 1, 5], [2, 2, 1]], (1, 3))
        self.refused([[1, 2, 2], [2, 2, 5], [2, 2, 1]], (2, 2))
        self.refused([[1, 2, 2], [2, 1, 5], [2, 2, 7]], (2, 3))
        self.refused([[1, 2, 2], [2, 1, 3], [0, 2, 7]], (3, 1))
        self.refused([[0, 5, 5], [5, 0, 5], [5, 5, 0]], (1, 1))
        self.refused(changed(SIX, 6, 6, 0), (6, 6))


class BondsTest(unittest.TestCase):

    def test_limits(self):
        self.assertEqual((MOST_LETTERS, MOST_WORD), (6, 60))

    def test_tables_as_lists_as_tuples_and_mixed(self):
        for rows in (ONE, SIX) + TRIPLES + tuple(PAIRS.values()):
            lists = [list(row) for row in rows]
            mixed = tuple(list(row) if at % 2 else row for at, row in enumerate(rows))
            for passed in (rows, lists, tuple(lists), list(rows), mixed):
                with self.subTest(rows=passed):
                    bonds = Bonds(passed)
                    self.assertEqual(bonds.table, rows)
                    self.assertIs(type(bonds.table), tuple)
                    self.assertTrue(all(type(row) is tuple for row in bonds.table))
                    self.assertEqual(len(bonds), len(rows))
                    self.assertEqual(bonds, Bonds(rows=rows))

    def test_what_is_passed_is_not_changed_and_may_be_changed_later(self):
        rows = [[1, 4], [4, 1]]
        bonds = Bonds(rows)
        self.assertEqual(rows, [[1, 4], [4, 1]])
        rows[0][1] = 5
        rows[1] = None
        rows.append([])
        self.assertEqual(bonds.table, ((1, 4), (4, 1)))
        self.assertEqual(len(bonds), 2)
        self.assertEqual(bonds.bond(1, 2), 4)
        self.assertEqual((bonds.weight(1, 2), bonds.weight(2, 1)), (1, 2))

    def test_bond_of_all_pairs(self):
        for rows in (ONE, SIX) + TRIPLES:
            bonds = Bonds(rows)
            for one in range(1, len(rows) + 1):
                for other in range(1, len(rows) + 1):
                    self.assertEqual(bonds.bond(one, other), rows[one - 1][other - 1])
                self.assertEqual(bonds.bond(one, one), 1)

    def test_weight_of_two_letters(self):
        for bond, (up, down) in WEIGHTS.items():
            bonds = Bonds(PAIRS[bond])
            self.assertEqual((bonds.weight(1, 2), bonds.weight(2, 1)), (up, down))

    def test_weight_of_all_pairs(self):
        bonds = Bonds(SIX)
        for one in range(1, 7):
            self.assertEqual(bonds.weight(one, one), -2)
            for other in range(one + 1, 7):
                pair = bonds.weight(one, other), bonds.weight(other, one)
                self.assertEqual(pair, WEIGHTS[SIX[one - 1][other - 1]])

    def test_parameter_names(self):
        bonds = Bonds(rows=PAIRS[6])
        self.assertEqual(bonds.bond(other=2, one=1), 6)
        self.assertEqual(bonds.weight(other=1, one=2), 3)
        self.assertEqual(bonds.weight(other=2, one=1), 1)

    def test_values_that_are_no_letter(self):
        bonds = Bonds(TRIPLES[3])
        for method in (bonds.bond, bonds.weight):
            for value in NO_LETTERS:
                for pair in ((value, 1), (1, value), (value, "later"), (value, value)):
                    with self.subTest(method=method.__name__, pair=pair):
                        with self.assertRaises(BadNumber) as caught:
                            method(*pair)
                        self.assertIs(caught.exception.value, value)

    def test_the_only_letter(self):
        bonds = Bonds([[1]])
        self.assertEqual((bonds.bond(1, 1), bonds.weight(1, 1), len(bonds)), (1, -2, 1))
        with self.assertRaises(BadNumber):
            bonds.bond(1, 2)

    def test_equality(self):
        tables = (ONE, SIX) + TRIPLES + tuple(PAIRS.values())
        for rows in tables:
            for others in tables:
                self.assertIs(Bonds(rows) == Bonds(others), rows == others)
                self.assertIs(Bonds(rows) != Bonds(others), rows != others)

    def test_equality_with_other_things(self):
        bonds = Bonds(PAIRS[3])
        for other in (PAIRS[3], [[1, 3], [3, 1]], None, 2, "1 3", object(), Bonds, {}):
            with self.subTest(other=other):
                self.assertIs(bonds == other, False)
                self.assertIs(other == bonds, False)
                self.assertIs(bonds != other, True)
                self.assertIs(other != bonds, True)

    def test_other_operators(self):
        bonds = Bonds(PAIRS[3])
        for call in (
            lambda: bonds < bonds, lambda: bonds >= bonds, lambda: bonds + bonds, lambda: bonds * 2, lambda: -bonds,
            lambda: bonds + 1, lambda: 1 in bonds, lambda: bonds[0], lambda: iter(bonds), lambda: list(bonds),
        ):
            with self.assertRaises(TypeError):
                call()

    def test_a_single_bond_beside_many_two(self):
        for one in range(1, 7):
            for other in range(one + 1, 7):
                for bond in BONDS:
                    bonds = Bonds(table(6, **{f"b{one}{other}": bond}))
                    self.assertEqual((bonds.bond(one, other), bonds.bond(other, one)), (bond, bond))
                    self.assertEqual((bonds.weight(one, other), bonds.weight(other, one)), WEIGHTS[bond])


if __name__ == "__main__":
    unittest.main()
