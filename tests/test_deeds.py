"""Deeds: which can be done, what comes of them, and how they are taken back."""

import unittest
from unittest.mock import ANY

from bondwords.bonds import Bonds
from bondwords.deeds import back, can, deeds_of, done, returned, walked
from bondwords.errors import BadDeed, BadWord, TooGreat
from bondwords.rows import alike
from refusals import RefusalCase
from samples import BONDS, GREAT, ONE, PAIRS, SIX, TRIPLES, led_to_each_other, table, told_deeds, words

NO_NUMBERS = (True, False, None, "1", "", (1,), [1], {}, b"1")
NO_DEEDS = (
    None, 0, 1, True, "in", "out", "turn", b"in", (), [], {}, {"in"}, {"out": 0}, range(3), Bonds(ONE),
    ["in", 0, 1], ["out", 0], ["turn", 2], [("out", 0)], (("out", 0),), (0,), (0, "out"), (0, 0), (0, 0, 1),
    ("in",), ("in", 0), ("in", 1), ("in", 0, 1, 1), ("in", (0, 1)), ("out",), ("out", 0, 1), ("out", 0, 0),
    ("out", (0,)), ("turn",), ("turn", 2, 1), ("turn", 2, 3), ("turn", (2,)),
    ("", 0), ("Out", 0), ("out ", 0), ("OUT", 0), ("IN", 0, 1), ("put", 0, 1), ("turns", 2), ("Turn", 2),
    ("take", 0), (None, 0), (None, 0, 1), (True, 0), (b"out", 0), (b"in", 0, 1), (["out"], 0), (("out",), 0),
    ({}, 0), ([], 0, 1), ({"in"}, 0, 1), (Bonds(ONE), 0),
    ANY, (ANY,), (ANY, 0), (ANY, 0, 1), ("out", ANY), ("turn", ANY), ("in", ANY, 1), ("in", 0, ANY),
)
EVERY = tuple(PAIRS.values()) + TRIPLES + (ONE,)


def some_values(many, letters):
    """Deeds of each form, at places and with letters that stand, and beyond them on both sides."""
    places = [-GREAT, -2, -1, *range(many + 3), GREAT]
    found = [(name, at) for name in ("out", "turn") for at in places]
    return found + [("in", at, letter) for at in places for letter in (-1, *range(letters + 2), GREAT)]


class WrongWordsTest(RefusalCase):

    def test_values_that_are_no_word(self):
        bonds = Bonds(TRIPLES[3])
        for function in (can, done, back):
            for deed in (("in", 0, 1), ("out", 0), ("turn", 70), None):
                self.refuses_no_words(lambda word: function(bonds, word, deed))
        for function in (walked, returned):
            for deeds in ((), [("out", 0)], None, [None]):
                self.refuses_no_words(lambda word: function(bonds, word, deeds))
        self.refuses_no_words(lambda word: deeds_of(bonds, word))

    def test_letters_of_fewer_bonds(self):
        bonds = Bonds(PAIRS[3])
        self.refused(BadWord, lambda: done(bonds, [1, 3, 3], ("out", 1)), place=1)
        self.refused(BadWord, lambda: deeds_of(Bonds(ONE), (1, 1, 2)), place=2)


class EachDeedTest(RefusalCase):
    """All words of a few letters: each deed of point [13], and nothing else."""

    def check(self, rows, word):
        bonds = Bonds(rows)
        told = told_deeds(rows, word)
        self.assertEqual(deeds_of(bonds, word), tuple(sorted(told)))
        for deed, behind in told.items():
            self.assertIs(can(bonds, word, deed), True)
            self.assertEqual(done(bonds, word, deed), behind)
            self.assertEqual(walked(bonds, word, (deed,)), behind)
            way = back(bonds, word, deed)
            self.assertEqual(told_deeds(rows, behind)[way], word)
            self.assertEqual(returned(bonds, word, [deed]), (way,))
        for value in some_values(len(word), len(rows)):
            if value not in told:
                self.assertIs(can(bonds, word, value), False)
                self.refused(BadDeed, lambda: done(bonds, word, value), place=0)
                self.refused(BadDeed, lambda: back(bonds, word, value), place=0)

    def test_two_letters(self):
        for rows in (ONE,) + tuple(PAIRS.values()):
            for word in words(len(rows), 6):
                self.check(rows, word)

    def test_two_letters_and_longer_words(self):
        for rows in PAIRS.values():
            for word in ((1, 2) * 4, (2, 1) * 3 + (1, 2) * 3, (1, 1, 2, 1, 2, 1, 2, 1, 2, 2), (2,) * 9):
                self.check(rows, word)

    def test_three_letters(self):
        for rows in TRIPLES:
            for word in words(3, 3):
                self.check(rows, word)
            self.check(rows, (3, 1, 2, 1, 2, 1, 2, 3, 2, 3, 2, 3, 2, 2, 1, 3, 1, 3))

    def test_six_letters(self):
        for word in ((6, 3, 6, 3, 6, 3, 6), (1, 6, 1, 6, 1, 6, 5), (1, 3, 1, 3, 4, 5, 4, 5), (1, 5, 1, 5), (2, 4, 2)):
            self.check(SIX, word)

    def test_words_of_58_59_and_60_letters(self):
        for many in (58, 59, 60):
            word = tuple(at * at % 5 % 3 + 1 for at in range(many))
            told = told_deeds(TRIPLES[3], word)
            self.assertEqual(any(deed[0] == "in" for deed in told), many == 58)
            self.assertEqual(deeds_of(Bonds(TRIPLES[3]), word), tuple(sorted(told)))
            for deed, behind in told.items():
                self.assertEqual(done(Bonds(TRIPLES[3]), word, deed), behind)


class PutInTest(RefusalCase):

    def test_places(self):
        bonds = Bonds(TRIPLES[0])
        self.assertEqual(done(bonds, (), ("in", 0, 2)), (2, 2))
        self.assertEqual(done(bonds, [1, 3], ("in", 0, 2)), (2, 2, 1, 3))
        self.assertEqual(done(bonds, [1, 3], ("in", 1, 2)), (1, 2, 2, 3))
        self.assertEqual(done(bonds, [1, 3], ("in", 2, 2)), (1, 3, 2, 2))
        for word, at in (((), 1), ((), -1), ((1, 3), 3), ((1, 3), -1), ((1, 3), -2), ((1, 3), GREAT)):
            self.assertIs(can(bonds, word, ("in", at, 2)), False)
            self.refused(BadDeed, lambda: done(bonds, word, ("in", at, 2)), place=0)

    def test_values_that_are_no_letter(self):
        bonds = Bonds(PAIRS[3])
        for word in ((), (1, 2), (1,) * 60):
            for letter in (0, 3, -1, 7, GREAT) + NO_NUMBERS:
                self.assertIs(can(bonds, word, ("in", 0, letter)), False)
                for function in (done, back):
                    self.refused(BadDeed, lambda: function(bonds, word, ("in", 0, letter)), place=0)

    def test_too_many_letters(self):
        bonds = Bonds(PAIRS[3])
        for at in (0, 30, 58):
            self.assertIs(can(bonds, (1, 2) * 29, ("in", at, 1)), True)
            self.assertEqual(len(done(bonds, (1, 2) * 29, ("in", at, 1))), 60)
        for many in (59, 60):
            word = ((1, 2) * 30)[:many]
            for at in (0, 30, many):
                self.assertIs(can(bonds, word, ("in", at, 2)), False)
                for function in (done, back):
                    self.refused(TooGreat, lambda: function(bonds, word, ("in", at, 2)), most=60)
            for deed in (("in", many + 1, 2), ("in", -1, 2), ("in", 0, 3), ("in", 0, True), ("in", 0), ("in", 0, 1, 1)):
                self.assertIs(can(bonds, word, deed), False)
                for function in (done, back):
                    self.refused(BadDeed, lambda: function(bonds, word, deed), place=0)

    def test_other_deeds_on_words_of_sixty_letters(self):
        bonds = Bonds(PAIRS[3])
        self.assertEqual(done(bonds, (1, 2) * 30, ("turn", 57)), (1, 2) * 28 + (1, 1, 2, 1))
        self.assertEqual(done(bonds, (1,) * 60, ("out", 58)), (1,) * 58)
        self.assertEqual(back(bonds, (1,) * 60, ("out", 58)), ("in", 58, 1))


class TakeOutTest(RefusalCase):

    def test_places(self):
        bonds = Bonds(TRIPLES[0])
        self.assertEqual(done(bonds, [2, 2], ("out", 0)), ())
        self.assertEqual(done(bonds, [2, 2, 1, 3, 3], ("out", 0)), (1, 3, 3))
        self.assertEqual(done(bonds, [2, 2, 1, 3, 3], ("out", 3)), (2, 2, 1))
        for word, at in (
            ((), 0), ((2,), 0), ((2, 2), 1), ((2, 2), 2), ((2, 2), -1), ((2, 2), -2), ((2, 1, 2), -1), ((2, 2, 2), -3),
            ((2, 2), GREAT),
        ):
            self.assertIs(can(bonds, word, ("out", at)), False)
            self.refused(BadDeed, lambda: done(bonds, word, ("out", at)), place=0)

    def test_letters_that_differ(self):
        bonds = Bonds(TRIPLES[9])
        for word, at in (((1, 2), 0), ((1, 1, 2), 1), ((2, 1, 2), 0), ((3, 1, 3, 3), 1)):
            self.assertIs(can(bonds, word, ("out", at)), False)
            self.refused(BadDeed, lambda: done(bonds, word, ("out", at)), place=0)


class TurnTest(RefusalCase):

    def test_each_bond(self):
        for bond in (2, 3, 4, 6):
            bonds = Bonds(PAIRS[bond])
            one, other = ((1, 2) * 3)[:bond], ((2, 1) * 3)[:bond]
            self.assertEqual(done(bonds, one, ("turn", 0)), other)
            self.assertEqual(done(bonds, other, ("turn", 0)), one)
            self.assertEqual(done(bonds, (1, 1) + one + (2, 2), ("turn", 2)), (1, 1) + other + (2, 2))
            self.assertEqual(done(bonds, (1,) + other, ("turn", 1)), (1,) + one)
            for at in (-bond, -1, 1, bond - 1, bond, GREAT):
                self.assertIs(can(bonds, one, ("turn", at)), False)
                self.refused(BadDeed, lambda: done(bonds, one, ("turn", at)), place=0)

    def test_stretches_that_are_a_letter_too_short(self):
        for bond in (2, 3, 4, 6):
            bonds = Bonds(PAIRS[bond])
            short = ((1, 2) * 3)[:bond - 1]
            for word, at in ((short, 0), ((1, 1) + short, 2), (short + short[-1:], 0), (short + short[-1:] * 9, 0)):
                self.assertIs(can(bonds, word, ("turn", at)), False)
                self.refused(BadDeed, lambda: done(bonds, word, ("turn", at)), place=0)

    def test_no_bond_and_a_letter_with_itself(self):
        for many in (0, 1, 2, 3, 6, 60):
            self.assertIs(can(Bonds(PAIRS[0]), ([1, 2] * 30)[:many], ("turn", 0)), False)
        for rows in EVERY:
            for many in range(7):
                self.assertIs(can(Bonds(rows), (1,) * many, ("turn", 0)), False)
                self.refused(BadDeed, lambda: done(Bonds(rows), (1,) * many, ("turn", 0)), place=0)

    def test_a_third_letter_in_the_stretch(self):
        bonds = Bonds(table(3, b12=4))
        for word in ((1, 2, 1, 3), (1, 2, 3, 2), (3, 2, 1, 2), (1, 2, 2, 1)):
            self.assertIs(can(bonds, word, ("turn", 0)), word[0] == 3)
        self.assertEqual(done(bonds, (3, 2, 1, 2), ("turn", 0)), (2, 3, 1, 2))

    def test_only_the_stretch_is_turned(self):
        self.assertEqual(done(Bonds(PAIRS[2]), (1, 2, 1, 2), ("turn", 1)), (1, 1, 2, 2))
        self.assertEqual(done(Bonds(PAIRS[3]), (1, 2, 1, 2, 1, 2), ("turn", 1)), (1, 1, 2, 1, 1, 2))


class NoDeedsTest(RefusalCase):

    def test_values_that_are_no_deed(self):
        bonds = Bonds(PAIRS[2])
        for word in ((1, 1, 1, 2, 1), (), (1, 2) * 30):
            for value in NO_DEEDS:
                with self.subTest(word=word, value=value):
                    self.assertIs(can(bonds, word, value), False)
                    self.refused(BadDeed, lambda: done(bonds, word, value), place=0)
                    self.refused(BadDeed, lambda: back(bonds, word, value), place=0)
                    self.refused(BadDeed, lambda: walked(bonds, word, [value]), place=0)
                    self.refused(BadDeed, lambda: returned(bonds, word, [value]), place=0)

    def test_places_that_are_no_integer(self):
        bonds = Bonds(PAIRS[2])
        for at in NO_NUMBERS:
            for word, deed in (((1, 1, 1, 1), ("out", at)), ((1, 2, 1, 2), ("turn", at)), ((1, 2), ("in", at, 1))):
                self.assertIs(can(bonds, word, deed), False)
                for function in (done, back):
                    self.refused(BadDeed, lambda: function(bonds, word, deed), place=0)

    def test_many_items(self):
        self.assertIs(can(Bonds(PAIRS[2]), (1, 1), ("out",) + (0,) * 1000), False)
        self.assertIs(can(Bonds(PAIRS[2]), (1, 1), ("in",) + (0,) * 1000), False)


class CallsTest(RefusalCase):

    def test_lists_and_tuples_are_equal_here(self):
        bonds = Bonds(PAIRS[3])
        for word in words(2, 5):
            same = list(word)
            for deed in deeds_of(bonds, word):
                self.assertIs(can(bonds, same, deed), True)
                for function in (done, back):
                    self.assertEqual(function(bonds, same, deed), function(bonds, word, deed))
                for function in (walked, returned):
                    self.assertEqual(function(bonds, same, [deed]), function(bonds, word, (deed,)))
            self.assertEqual(deeds_of(bonds, same), deeds_of(bonds, word))
            self.assertEqual(same, list(word))

    def test_arguments_are_not_changed(self):
        bonds = Bonds(PAIRS[3])
        word, deeds = [1, 2, 1, 1], [("out", 2), ("in", 0, 2), ("turn", 1)]
        walked(bonds, word, deeds)
        returned(bonds, word, deeds)
        self.assertEqual((word, deeds), ([1, 2, 1, 1], [("out", 2), ("in", 0, 2), ("turn", 1)]))
        for call in (walked, returned):
            self.refused(BadDeed, lambda: call(bonds, word, deeds + [None]), place=3)
        self.assertEqual(word, [1, 2, 1, 1])

    def test_kinds_of_values(self):
        bonds = Bonds(PAIRS[2])
        self.assertIs(type(done(bonds, [1, 2], ("turn", 0))), tuple)
        self.assertIs(type(walked(bonds, [1, 2], [])), tuple)
        self.assertIs(type(returned(bonds, [1, 2], [])), tuple)
        self.assertIs(type(deeds_of(bonds, [1, 2])), tuple)
        self.assertIs(type(back(bonds, [1, 2], ("turn", 0))), tuple)

    def test_parameter_names(self):
        bonds = Bonds(PAIRS[2])
        self.assertIs(can(deed=("turn", 0), word=[1, 2], bonds=bonds), True)
        self.assertEqual(done(deed=("turn", 0), word=[1, 2], bonds=bonds), (2, 1))
        self.assertEqual(back(deed=("turn", 0), word=[1, 2], bonds=bonds), ("turn", 0))
        self.assertEqual(walked(deeds=[("turn", 0)], word=[1, 2], bonds=bonds), (2, 1))
        self.assertEqual(returned(deeds=[("turn", 0)], word=[1, 2], bonds=bonds), (("turn", 0),))
        self.assertEqual(deeds_of(word=[1, 2], bonds=Bonds(PAIRS[0])), deeds_of(Bonds(PAIRS[3]), [1, 2]))


class RowsOfDeedsTest(RefusalCase):

    def test_the_empty_row(self):
        bonds = Bonds(PAIRS[3])
        for deeds in ((), []):
            for word in ((), [1, 2, 2], (1,) * 60):
                self.assertEqual(walked(bonds, word, deeds), tuple(word))
                self.assertEqual(returned(bonds, word, deeds), ())

    def test_deeds_that_hang_on_those_ahead(self):
        bonds = Bonds(PAIRS[3])
        deeds = [("in", 0, 1), ("turn", 1), ("turn", 0), ("out", 2), ("in", 2, 1), ("out", 1)]
        words_behind = ((2, 1), (1, 1, 2, 1), (1, 2, 1, 2), (2, 1, 2, 2), (2, 1), (2, 1, 1, 1), (2, 1))
        ways = [("out", 0), ("turn", 1), ("turn", 0), ("in", 2, 2), ("out", 2), ("in", 1, 1)]
        for many, behind in enumerate(words_behind):
            self.assertEqual(walked(bonds, [2, 1], deeds[:many]), behind)
            self.assertEqual(returned(bonds, (2, 1), tuple(deeds[:many])), tuple(ways[:many][::-1]))
        for place, deed in enumerate(deeds[1:4]):
            self.refused(BadDeed, lambda: done(bonds, (2, 1), deed), place=0)
            self.refused(BadDeed, lambda: walked(bonds, (2, 1), deeds[:place] + deeds[place + 1:]), place=place)

    def test_values_that_are_no_row(self):
        bonds = Bonds(PAIRS[2])
        deed = ("out", 0)
        for deeds in (None, 0, True, "", "out", {}, {deed}, {deed: 0}, iter([deed]), range(0), bonds, b""):
            for function in (walked, returned):
                self.refused(BadDeed, lambda: function(bonds, (1, 1), deeds), place=None)
        for function in (walked, returned):
            self.refused(BadDeed, lambda: function(bonds, (1, 1), deed), place=0)

    def test_the_first_deed_that_cannot_be_done(self):
        bonds = Bonds(PAIRS[2])
        good = [("turn", 0)] * 5
        for wrong in (("out", 0), ("turn", 1), ("in", 3, 1), ("in", 0, 3), None, ["turn", 0], ("turn", False)):
            for place in range(6):
                for rest in ([], good, [None], [wrong] * 3):
                    for kind in (list, tuple):
                        deeds = kind(good[:place] + [wrong] + rest)
                        for function in (walked, returned):
                            self.refused(BadDeed, lambda: function(bonds, [1, 2], deeds), place=place)

    def test_too_many_letters_within_a_row(self):
        bonds = Bonds(PAIRS[2])
        for function in (walked, returned):
            for many, good in ((56, 2), (57, 1), (58, 1), (59, 0), (60, 0)):
                word = [1] * many
                function(bonds, word, [("in", 0, 2)] * good)
                for rest in ([], [None], [("out", 99)]):
                    deeds = [("in", 0, 2)] * (good + 1) + rest
                    self.refused(TooGreat, lambda: function(bonds, word, deeds), most=60)
                    self.refused(BadDeed, lambda: function(bonds, word, [("out", 70)] + deeds), place=0)
            self.assertEqual(walked(bonds, [1] * 60, [("out", 0), ("in", 58, 2)]), (1,) * 58 + (2, 2))
            self.refused(TooGreat, lambda: function(bonds, [1] * 60, [("out", 0), ("in", 58, 2), ("in", 60, 1)]))
            self.refused(BadDeed, lambda: function(bonds, [1] * 60, [("in", 61, 1), ("in", 60, 1)]), place=0)


class TakenBackTest(RefusalCase):
    """Point [20], by deeds and by rows of deeds."""

    def test_each_kind(self):
        bonds = Bonds(TRIPLES[2])
        word = (3, 3, 1, 2, 1)
        for deed, way in (
            (("in", 0, 2), ("out", 0)), (("in", 5, 3), ("out", 5)), (("out", 0), ("in", 0, 3)),
            (("turn", 2), ("turn", 2)), (("turn", 1), ("turn", 1)),
        ):
            self.assertEqual(back(bonds, word, deed), way)
            self.assertEqual(done(bonds, done(bonds, word, deed), way), word)
            self.assertEqual(back(bonds, done(bonds, word, deed), way)[:2], deed[:2])

    def test_letters_that_stand_several_times(self):
        bonds = Bonds(PAIRS[3])
        for at in range(3):
            self.assertEqual(back(bonds, (1, 1, 1, 1), ("out", at)), ("in", at, 1))

    def test_long_rows_lead_back(self):
        for rows in EVERY + (SIX,):
            bonds = Bonds(rows)
            word = now = tuple(at % len(rows) + 1 for at in range(50))
            deeds = []
            for step in range(60):
                choice = deeds_of(bonds, now)
                # Such a deed of each kind in turn, as far as there is one.
                kind = [deed for deed in choice if deed[0] == ("in", "turn", "out")[step % 3]] or choice
                deeds.append(kind[step * step * 7 % len(kind)])
                now = done(bonds, now, deeds[-1])
            self.assertEqual(walked(bonds, word, deeds), now)
            ways = returned(bonds, word, deeds)
            self.assertEqual(len(ways), 60)
            self.assertEqual(walked(bonds, now, ways), word)
            self.assertEqual(walked(bonds, now, list(ways[:20])), walked(bonds, word, deeds[:40]))
            self.assertEqual(returned(bonds, now, ways), tuple(deeds))


class LikenessTest(unittest.TestCase):
    """Point [21]: rows are the same exactly if deeds alone lead from the one to the other."""

    def check(self, rows, most):
        bonds = Bonds(rows)
        lists = led_to_each_other(rows, most)
        for found in lists:
            for word in found:
                self.assertTrue(alike(bonds, found[0], word))
                for deed in deeds_of(bonds, word):
                    self.assertTrue(alike(bonds, word, done(bonds, word, deed)))
        for at, found in enumerate(lists):
            for other in lists[:at]:
                self.assertFalse(alike(bonds, found[0], other[0]))

    def test_two_letters(self):
        for bond in BONDS:
            self.check(PAIRS[bond], 7)

    def test_three_letters(self):
        for rows in TRIPLES:
            self.check(rows, 4)


if __name__ == "__main__":
    unittest.main()
