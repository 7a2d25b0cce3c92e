"""Papers: what is told of two words, and what is taken as a paper on them."""

import unittest
from unittest.mock import ANY

from bondwords.bonds import Bonds
from bondwords.deeds import deeds_of, done, walked
from bondwords.errors import BadWord, TooGreat
from bondwords.papers import is_paper, paper
from bondwords.rows import alike, row_of
from refusals import RefusalCase
from samples import BONDS, GREAT, ONE, PAIRS, SIX, TRIPLES, led_to_each_other, some_word, told_deeds, words

NO_PAPERS = (
    None, 0, 1, True, False, "", "deeds", "letter", b"deeds", (), [], {}, {"deeds": ()}, {"deeds"}, Bonds(ONE), range(2),
    ("deeds",), ("deeds", None), ("deeds", []), ("deeds", {}), ("deeds", ""), ("deeds", 0), ("deeds", True),
    ("deeds", (), ()), ("deeds", (), None), ["deeds", ()], ("deed", ()), ("Deeds", ()), ("deeds ", ()), ("", ()),
    (None, ()), (0, ()), (b"deeds", ()), (("deeds",), ()), (["deeds"], ()), ({}, ()), ((), "deeds"), ((),), ((), ()),
    (ANY, ()), ("deeds", ANY), ("deeds", (ANY,)), ("deeds", ((ANY, 0),)), (ANY, 1, 1, -1), ("letter", ANY, ANY, ANY), ANY,
    ("letter",), ("letter", ()), ("letter", 1), ("letter", 1, 1), ("letter", 1, 1, 1), ("letter", (1, 1, 1)),
    ("letter", 0, 1, 1), ("letter", 3, 1, 1), ("letter", None, None, None), ("letters", 1, 1, 1), ("deeds", 1, 1, 1),
)


def with_parts_changed(value):
    """A paper with one part changed, left out, put in, or of another kind: none is a paper still."""
    others = (None, True, False, 0, -1, 1, 7, GREAT, "", "in", "letter", "deeds", (), [], {}, (1,), b"1", Bonds(ONE))
    for at, part in enumerate(value):
        for other in others:
            if type(other) is not type(part) or other != part:
                yield value[:at] + (other,) + value[at + 1:]
            yield value[:at] + (other,) + value[at:]
        yield value[:at] + value[at + 1:]
    for other in others:
        yield value + (other,)
    yield list(value)
    yield (value,)


class PaperCase(RefusalCase):

    def good(self, rows, one, other):
        """The paper on two words, which must be one by what point [15] says."""
        bonds = Bonds(rows)
        told = paper(bonds, one, other)
        self.assertIs(type(told), tuple)
        if told[0] == "deeds":
            self.assertEqual(len(told), 2)
            now = tuple(one)
            for deed in told[1]:
                now = told_deeds(rows, now)[deed]
            self.assertEqual(now, tuple(other))
        else:
            fronts = row_of(bonds, one), row_of(bonds, other)
            first = min(at for at in range(len(rows)) if fronts[0][at] != fronts[1][at])
            self.assertEqual(told, ("letter", first + 1, fronts[0][first], fronts[1][first]))
        self.assertIs(is_paper(bonds, one, other, told), True)
        return told


class WrongWordsTest(RefusalCase):

    def test_values_that_are_no_word(self):
        bonds = Bonds(TRIPLES[3])
        for other in ((), (1, 2) * 30, None, [4], [1] * 61):
            self.refuses_no_words(lambda word: paper(bonds, word, other))
        for one in ((), (1,) * 60):
            self.refuses_no_words(lambda word: paper(bonds, one, word))
        for value in (("deeds", ()), ("letter", 1, 1, -1), None):
            self.refuses_no_words(lambda word: is_paper(bonds, word, (), value))
            self.refuses_no_words(lambda word: is_paper(bonds, word, None, value))
            self.refuses_no_words(lambda word: is_paper(bonds, (1, 2), word, value))

    def test_the_first_of_two_words_that_are_none(self):
        bonds = Bonds(PAIRS[3])
        for call in (lambda one, other: paper(bonds, one, other), lambda one, other: is_paper(bonds, one, other, None)):
            self.refused(BadWord, lambda: call([1, 3], [0]), place=1)
            self.refused(BadWord, lambda: call([0], [1] * 61), place=0)
            self.refused(TooGreat, lambda: call([1] * 61, [0]), most=60)


class CallsTest(RefusalCase):

    def test_arguments_are_not_changed(self):
        bonds = Bonds(PAIRS[3])
        one, other = [1, 2, 1, 1], [2, 2, 2, 1]
        is_paper(bonds, one, other, paper(bonds, one, other))
        self.assertEqual((one, other), ([1, 2, 1, 1], [2, 2, 2, 1]))

    def test_lists_and_tuples_are_equal_here(self):
        bonds = Bonds(PAIRS[3])
        for one in words(2, 3):
            for other in words(2, 3):
                told = paper(bonds, one, other)
                for found in ((list(one), other), (one, list(other)), (list(one), list(other))):
                    self.assertEqual(paper(bonds, *found), told)
                    self.assertIs(is_paper(bonds, *found, told), True)

    def test_parameter_names(self):
        bonds = Bonds(PAIRS[3])
        self.assertEqual(paper(other=[1], one=[], bonds=bonds), ("letter", 1, 1, -1))
        self.assertIs(is_paper(value=("letter", 1, 1, -1), other=[1], one=[], bonds=bonds), True)


class PaperTest(PaperCase):

    def test_by_hand(self):
        bonds = Bonds(PAIRS[3])
        self.assertEqual(paper(bonds, (), (1,)), ("letter", 1, 1, -1))
        self.assertEqual(paper(bonds, (1,), ()), ("letter", 1, -1, 1))
        self.assertEqual(paper(bonds, (1, 2), (2, 1)), ("letter", 1, 1, -2))
        self.assertEqual(paper(Bonds(PAIRS[2]), (1,), (1, 2)), ("letter", 2, 1, -1))
        self.assertEqual(paper(Bonds(TRIPLES[0]), (3, 1, 2), (1, 2)), ("letter", 3, -1, 1))

    def test_a_word_and_itself(self):
        for rows in TRIPLES:
            for word in ((), (1,), (1, 1), (1, 2, 1), (3, 2, 2, 3), some_word(3, 16, 5)):
                self.assertEqual(self.good(rows, word, list(word)), ("deeds", ()))

    def test_words_of_a_few_letters(self):
        tables = [(rows, 4) for rows in (ONE,) + tuple(PAIRS.values())] + [(rows, 2) for rows in TRIPLES + (SIX,)]
        for rows, most in tables:
            for found in led_to_each_other(rows, most):
                for one in found:
                    for other in words(len(rows), most):
                        told = self.good(rows, one, other)
                        self.assertEqual(told[0], "deeds" if other in found else "letter")

    def test_alike_words_of_more_letters(self):
        for rows in TRIPLES:
            for found in led_to_each_other(rows, 5):
                for at, word in enumerate(found):
                    self.good(rows, word, found[at * 5 % len(found)])

    def test_sixteen_letters(self):
        for rows in (SIX,) + TRIPLES + tuple(PAIRS.values()):
            bonds = Bonds(rows)
            for seed in range(20):
                one = now = some_word(len(rows), 16, seed)
                for step in range(40):
                    choice = [deed for deed in deeds_of(bonds, now) if len(now) < 16 or deed[0] != "in"]
                    if choice:
                        now = done(bonds, now, choice[(step * 31 + seed) % len(choice)])
                self.assertEqual(self.good(rows, one, now)[0], "deeds")
                self.assertEqual(self.good(rows, now, one)[0], "deeds")
                self.good(rows, one, some_word(len(rows), 16, seed + 1))

    def test_too_many_letters(self):
        for rows in (PAIRS[2], PAIRS[0], PAIRS[3]):
            bonds = Bonds(rows)
            for many in (17, 18, 41, 60):
                for one, other in (
                    ((1,) * many, (1,) * (many % 2)), ((1, 2) * (many // 2), (1, 2) * (many // 2)),
                    ((2,) * many, (1, 1, 2) * (many % 2)), ((1,) * many, (1,) * many),
                    ((1,) * many, (1,) * (many - 2)),
                ):
                    if max(len(one), len(other)) > 16:
                        self.assertTrue(alike(bonds, one, other))
                        self.refused(TooGreat, lambda: paper(bonds, one, other), most=16)
                        self.refused(TooGreat, lambda: paper(bonds, other, one), most=16)
            self.assertEqual(self.good(rows, (1,) * 16, ())[0], "deeds")
            self.assertEqual(self.good(rows, (), (1, 2, 2, 1) * 4)[0], "deeds")

    def test_long_words_that_are_not_alike(self):
        for rows in (ONE, PAIRS[0], PAIRS[6], TRIPLES[6], SIX):
            for one, other in (((1,) * 59, (1,) * 60), ((1,) * 17, ()), ((1,), (1,) * 60)):
                self.assertEqual(self.good(rows, one, other)[0], "letter")
                self.assertEqual(self.good(rows, other, one)[0], "letter")
        self.good(PAIRS[0], (1, 2) * 30, (2, 1) * 30)
        self.good(TRIPLES[9], (1, 2, 3) * 20, (1, 3, 2) * 20)
        self.good(SIX, some_word(6, 60, 1), some_word(6, 60, 2))


class IsPaperTest(PaperCase):

    def test_papers_on_other_words(self):
        for bond in BONDS:
            bonds = Bonds(PAIRS[bond])
            some = [((), (1,)), ((1,), ()), ((1, 2), (2, 1)), ((1, 1), ()), ((2, 1, 1), (2,)), ((), ()), ((1,), (2,))]
            for one, other in some:
                told = paper(bonds, one, other)
                for first in words(2, 2):
                    for second in words(2, 2):
                        if told[0] == "letter":
                            fits = row_of(bonds, first)[told[1] - 1], row_of(bonds, second)[told[1] - 1]
                            self.assertIs(is_paper(bonds, first, second, told), told[2:] == fits)
                        elif (first, second) == (one, other):
                            self.assertIs(is_paper(bonds, first, second, told), True)
                        elif told[1] and first == one or not told[1] and first != second:
                            self.assertIs(is_paper(bonds, first, second, told), False)

    def test_each_letter_whose_numbers_differ(self):
        for rows in TRIPLES:
            bonds = Bonds(rows)
            for one, other in (((1,), (2,)), ((), (1, 2, 3)), ((1, 2), (2, 1)), ((3, 1), (1, 3)), ((2, 2), ())):
                fronts = row_of(bonds, one), row_of(bonds, other)
                for letter in (1, 2, 3):
                    x, y = fronts[0][letter - 1], fronts[1][letter - 1]
                    self.assertIs(is_paper(bonds, one, other, ("letter", letter, x, y)), x != y)
                    for wrong in ((x + 1, y), (x, y + 1), (x, x), (y, y), (-x, y), (x, -y), (GREAT, y), (x, -GREAT)):
                        if wrong != (x, y):
                            self.assertIs(is_paper(bonds, one, other, ("letter", letter) + wrong), False)
                    if x != y:
                        self.assertIs(is_paper(bonds, one, other, ("letter", letter, y, x)), False)

    def test_letters_with_parts_changed(self):
        bonds = Bonds(PAIRS[3])
        for one, other in (((), (1,)), ((2,), ()), ((1, 2), (2, 1)), ((1, 2, 1), ())):
            told = paper(bonds, one, other)
            self.assertEqual(told[0], "letter")
            for value in with_parts_changed(told):
                with self.subTest(value=value):
                    self.assertIs(is_paper(bonds, one, other, value), False)

    def test_true_and_false_are_no_integers(self):
        bonds = Bonds(TRIPLES[0])
        self.assertIs(is_paper(bonds, (), (1,), ("letter", 1, 1, -1)), True)
        self.assertIs(is_paper(bonds, (), (1,), ("letter", True, 1, -1)), False)
        self.assertIs(is_paper(bonds, (), (1,), ("letter", 1, True, -1)), False)
        self.assertIs(is_paper(bonds, (1,), (), ("letter", 1, -1, True)), False)
        self.assertIs(is_paper(bonds, (1, 1), (), ("deeds", (("out", 0),))), True)
        self.assertIs(is_paper(bonds, (1, 1), (), ("deeds", (("out", False),))), False)
        self.assertIs(is_paper(bonds, (), (1, 1), ("deeds", (("in", 0, True),))), False)

    def test_deeds_with_parts_changed(self):
        bonds = Bonds(PAIRS[3])
        deeds = (("turn", 1), ("out", 0), ("in", 2, 2))
        one, other = (1, 2, 1, 2), (2, 1, 2, 2)
        self.assertEqual(walked(bonds, one, deeds), other)
        self.assertIs(is_paper(bonds, one, other, ("deeds", deeds)), True)
        for value in with_parts_changed(("deeds", deeds)):
            self.assertIs(is_paper(bonds, one, other, value), False)
        for changed in with_parts_changed(deeds):
            self.assertIs(is_paper(bonds, one, other, ("deeds", changed)), False)
        for at, deed in enumerate(deeds):
            for part in with_parts_changed(deed):
                with self.subTest(part=part):
                    changed = deeds[:at] + (part,) + deeds[at + 1:]
                    self.assertIs(is_paper(bonds, one, other, ("deeds", changed)), False)

    def test_all_ways_of_two_deeds(self):
        rows = PAIRS[3]
        bonds = Bonds(rows)
        for one in ((), (1,), (1, 2, 1), (2, 2, 1)):
            for deed, middle in told_deeds(rows, one).items():
                for last, end in told_deeds(rows, middle).items():
                    for other in (one, middle, end, (1, 1), end[::-1]):
                        told = is_paper(bonds, one, other, ("deeds", (deed, last)))
                        self.assertIs(told, other == end)

    def test_deeds_between_words_that_are_not_alike(self):
        bonds = Bonds(PAIRS[3])
        for deeds in ((), (("in", 0, 1),), (("in", 0, 1), ("out", 0)), (("turn", 0),)):
            self.assertIs(is_paper(bonds, (1, 2), (2, 1), ("deeds", deeds)), False)

    def test_deeds_that_cannot_be_done(self):
        bonds = Bonds(PAIRS[3])
        for deeds in (
            (("out", 0),), (("turn", 1),), (None,), ("in",), (("in", 4, 1), ("out", 4)), (("turn", 0), None),
            (("turn", 0), ("turn", 0), ("out", 1)), ("out", 0), (("turn", 0), ["turn", 0]), (("turn", -3),),
        ):
            for other in ((1, 2, 1), (2, 1, 2), ()):
                self.assertIs(is_paper(bonds, (1, 2, 1), other, ("deeds", deeds)), False)

    def test_values_that_are_nothing_of_the_kind(self):
        for rows in (ONE, PAIRS[3]):
            for one, other in (((), ()), ((1,), (1,)), ((), (1,)), ((1, 1), ()), ((1,) * 60, (1,) * 60)):
                for value in NO_PAPERS:
                    with self.subTest(one=one, other=other, value=value):
                        self.assertIs(is_paper(Bonds(rows), one, other, value), False)

    def test_words_of_more_than_sixteen_letters(self):
        bonds = Bonds(PAIRS[3])
        long = (1,) * 60
        self.assertIs(is_paper(bonds, long, long, ("deeds", ())), True)
        self.assertIs(is_paper(bonds, long, long[2:], ("deeds", (("out", 17),))), True)
        self.assertIs(is_paper(bonds, long[2:], long, ("deeds", (("in", 58, 1),))), True)
        self.assertIs(is_paper(bonds, long, (), ("deeds", (("out", 0),) * 30)), True)
        self.assertIs(is_paper(bonds, long, (), ("deeds", (("out", 0),) * 29)), False)
        self.assertIs(is_paper(bonds, long, (), ("deeds", (("out", 0),) * 31)), False)
        self.assertIs(is_paper(bonds, (), long, ("deeds", (("in", 0, 1),) * 30)), True)
        self.assertIs(is_paper(bonds, (), long, ("deeds", (("in", 0, 1),) * 31 + (("out", 0),))), False)
        self.assertIs(is_paper(bonds, long, long, ("deeds", (("in", 60, 1), ("out", 60)))), False)
        self.assertIs(is_paper(bonds, long, long[1:], ("letter", 1, 1, -1)), True)
        self.assertIs(is_paper(bonds, long, long[1:], ("letter", 1, -1, 1)), False)
        self.assertIs(is_paper(bonds, (1, 2) * 30, (1, 2) * 30, ("turn", 0)), False)

    def test_long_rows_of_deeds(self):
        bonds = Bonds(PAIRS[3])
        deeds = (("turn", 0),) * 5000
        self.assertIs(is_paper(bonds, (1, 2, 1), (1, 2, 1), ("deeds", deeds)), True)
        self.assertIs(is_paper(bonds, (1, 2, 1), (2, 1, 2), ("deeds", deeds)), False)


if __name__ == "__main__":
    unittest.main()
