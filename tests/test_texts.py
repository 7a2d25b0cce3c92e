"""Texts of bonds and words: what is written, what is read, and the place at which a text goes wrong."""

import unittest
from itertools import product

from bondwords.bonds import Bonds
from bondwords.errors import BadBonds, BadText, BadWord, TooGreat
from bondwords.texts import bonds_text, read_bonds, read_word, word_text
from refusals import RefusalCase
from samples import ENDLESS, FINITE, GREAT, LARGE, NO_WORDS, ONE, PAIRS, SIX, TOO_LONG, TRIPLES, some_word, table, words

ALL_TABLES = (*PAIRS.values(), *TRIPLES, *LARGE, *ENDLESS, *[rows for rows, many, count in FINITE])
SOME_CHARACTERS = " \n0123456789a-.,~"
NO_TEXTS = (None, 0, 1, True, b"", b"1", [], ["1"], (), ("1", " "), {}, {"1"}, range(1), Bonds(ONE), 1.0, iter("1"))


def form_of_bonds(many):
    """What can stand at each place of a text of bonds of so many letters."""
    row = " ".join("x" * many)
    return [{"x": "012346"}.get(sign, sign) for sign in "\n".join([row] * many)]


BONDS_FORMS = [form_of_bonds(many) for many in range(1, 7)]


def fits(form, text):
    return len(text) <= len(form) and all(sign in signs for sign, signs in zip(text, form))


def told_place(forms, text):
    """The first character at which no text of such forms goes on, or their number if it ends too early; else -1."""
    for place in range(len(text)):
        if not any(fits(form, text[:place + 1]) for form in forms):
            return place
    if any(fits(form, text) and len(form) == len(text) for form in forms):
        return -1
    return len(text)


def told_word_place(text):
    """The same for texts of words of however many letters."""
    for place, sign in enumerate(text):
        if sign not in ("123456", " ")[place % 2]:
            return place
    return len(text) if text and len(text) % 2 == 0 else -1


def changes(text):
    """The text with one character changed, left out, or put in, or cut off, at each place."""
    for place in range(len(text) + 1):
        yield text[:place]
        yield text[:place] + text[place + 1:]
        yield text[:place] * 2
        for sign in SOME_CHARACTERS:
            yield text[:place] + sign + text[place:]
            yield text[:place] + sign + text[place + 1:]


class TextCase(RefusalCase):

    def check_bonds(self, text):
        place = told_place(BONDS_FORMS, text)
        if place >= 0:
            self.refused(BadText, lambda: read_bonds(text), place=place)
            return
        rows = [[int(number) for number in line.split()] for line in text.split("\n")]
        try:
            told = Bonds(rows)
        except BadBonds as error:
            self.refused(BadBonds, lambda: read_bonds(text), place=error.place)
        else:
            self.assertEqual(read_bonds(text), told)
            self.assertEqual(bonds_text(told), text)

    def check_word(self, text):
        place = told_word_place(text)
        if place >= 0:
            self.refused(BadText, lambda: read_word(text), place=place)
        elif len(text) > 119:
            self.refused(TooGreat, lambda: read_word(text), most=60)
        else:
            self.assertEqual(read_word(text), tuple(int(letter) for letter in text.split()))
            self.assertEqual(word_text(read_word(text)), text)


class WritingTest(RefusalCase):

    def test_bonds(self):
        self.assertEqual(bonds_text(Bonds(ONE)), "1")
        self.assertEqual(bonds_text(Bonds(PAIRS[3])), "1 3\n3 1")
        self.assertEqual(bonds_text(Bonds(TRIPLES[8])), "1 0 2\n0 1 3\n2 3 1")
        self.assertEqual(
            bonds_text(bonds=Bonds(SIX)),
            "1 3 4 6 0 2\n3 1 0 2 2 3\n4 0 1 6 2 2\n6 2 6 1 4 2\n0 2 2 4 1 3\n2 3 2 2 3 1",
        )

    def test_words(self):
        self.assertEqual(word_text([]), "")
        self.assertEqual(word_text(()), "")
        self.assertEqual(word_text([6]), "6")
        self.assertEqual(word_text((1, 1, 2)), "1 1 2")
        self.assertEqual(word_text(word=[1, 2, 3, 4, 5, 6]), "1 2 3 4 5 6")
        self.assertEqual(word_text([5] * 60), " ".join("5" * 60))

    def test_values_that_are_no_word(self):
        for word, place in NO_WORDS:
            if word not in ([1, 2, 3, 4, 0], [1] * 59 + [4], [4] * 60, (4,)):
                with self.subTest(word=word):
                    self.refused(BadWord, lambda: word_text(word), place=place)
        for word in TOO_LONG:
            self.refused(TooGreat, lambda: word_text(word), most=60)
        for wrong in (0, 7, -1, GREAT, True, None, "1", (1,)):
            self.refused(BadWord, lambda: word_text([6, 1, wrong, wrong]), place=2)
        self.refused(BadWord, lambda: word_text([6] * 59 + [7]), place=59)

    def test_words_are_not_changed(self):
        word = [1, 2, 2]
        word_text(word)
        self.assertEqual(word, [1, 2, 2])


class ReadBackTest(TextCase):

    def test_bonds(self):
        for rows in ALL_TABLES:
            text = bonds_text(Bonds(rows))
            self.assertEqual(read_bonds(text), Bonds(rows))
            self.assertEqual(read_bonds(text=text).table, rows)
            self.assertEqual(bonds_text(Bonds([list(row) for row in rows])), text)

    def test_words(self):
        for word in words(6, 3):
            self.assertEqual(read_word(word_text(word)), word)
            self.assertEqual(word_text(list(word)), word_text(word))
        for many in range(61):
            word = some_word(6, many, many)
            self.assertEqual(read_word(text=word_text(word)), word)
            self.assertIs(type(read_word(word_text(word))), tuple)


class WrongTextsTest(TextCase):

    def test_values_that_are_no_texts(self):
        for value in NO_TEXTS:
            self.refused(BadText, lambda: read_bonds(value), place=None)
            self.refused(BadText, lambda: read_word(value), place=None)

    def test_all_short_texts(self):
        for many in range(5):
            for signs in product(" \n01567x", repeat=many):
                self.check_bonds("".join(signs))
                self.check_word("".join(signs))

    def test_all_texts_of_the_form_of_two_letters(self):
        for numbers in product("012346", repeat=4):
            self.check_bonds("{} {}\n{} {}".format(*numbers))

    def test_texts_of_bonds_with_changes(self):
        for rows in (ONE, PAIRS[3], TRIPLES[10], table(4, b12=3, b34=6), table(5), SIX):
            for text in changes(bonds_text(Bonds(rows))):
                self.check_bonds(text)

    def test_texts_of_words_with_changes(self):
        for word in ((), (1,), (2, 6), (1, 2, 3, 4, 5, 6), some_word(6, 59, 1), some_word(6, 60, 2)):
            for text in changes(word_text(word)):
                self.check_word(text)

    def test_blanks_and_line_feeds(self):
        for sign in (" ", "\n", "  ", "\n\n", " \n", "\n "):
            for text in ("", "1", "1 3\n3 1", bonds_text(Bonds(SIX))):
                self.check_bonds(sign + text)
                self.check_bonds(text + sign)
                self.check_bonds(sign + text + sign)
                self.check_bonds(text.replace("\n", sign))
                self.check_bonds(text.replace(" ", sign))
            for text in ("", "1", "1 2 1"):
                self.check_word(sign + text)
                self.check_word(text + sign)
                self.check_word(text.replace(" ", sign))

    def test_bonds_by_hand(self):
        for text, place in (
            ("", 0), (" ", 0), ("\n", 0), ("5", 0), ("7", 0), ("x", 0), ("10", 1), ("1\n", 1), ("1\n1", 1), ("1 ", 2),
            ("1  3", 2), ("1 \n", 2), ("1 3", 3), ("1 33", 3), ("1 3 ", 4), ("1 3\n", 4), ("1 3\n3", 5),
            ("1 3\n3\n", 5), ("1 3\n3 ", 6), ("1 3\n3 1 ", 7), ("1 3\n3 1\n", 7), ("1 3\n3 1\n1 1", 7),
            ("1 3\n\n3 1", 4), ("1 3\n 3 1", 4),
            ("1 3\n5 1", 4), ("1 3\n3 12", 7), ("1 2 2 2 2 2 2", 11), ("1 2 2 2 2 2 ", 11), ("1 2 2 2 2 2", 11),
            ("1 2 2 2 2 2\n", 12), ("1 2 2 2 2 2 2\n2 1", 11), ("1,3\n3,1", 1), ("1 -3\n-3 1", 2), ("1 3\n3 1x", 7),
        ):
            with self.subTest(text=text):
                self.refused(BadText, lambda: read_bonds(text), place=place)

    def test_words_by_hand(self):
        for text, place in (
            (" ", 0), ("\n", 0), ("0", 0), ("7", 0), ("a", 0), ("1 ", 2), ("1  2", 2), ("12", 1), ("1\n", 1),
            ("1\n2", 1),
            ("1 2 ", 4), ("1 2 7", 4), ("1 2 10", 5), ("1 2 11", 5), ("1,2", 1), (" 1", 0), ("-1", 0), ("1 2 3x", 5),
        ):
            with self.subTest(text=text):
                self.refused(BadText, lambda: read_word(text), place=place)

    def test_long_texts(self):
        self.refused(BadText, lambda: read_bonds("1 " * 10000), place=11)
        self.refused(BadText, lambda: read_bonds("1" * 20000), place=1)
        self.refused(BadText, lambda: read_bonds("1 3\n" * 5000), place=7)
        self.refused(BadText, lambda: read_bonds(bonds_text(Bonds(SIX)) + "\n" * 19000), place=71)
        self.refused(BadText, lambda: read_word("1 " * 10000), place=20000)
        self.refused(BadText, lambda: read_word("1 " * 9999 + "1x"), place=19999)
        self.refused(BadText, lambda: read_word("1 " * 9999 + "7"), place=19998)


class BehindTheFormTest(RefusalCase):

    def test_errors_of_bonds(self):
        for text, place in (
            ("0", (1, 1)), ("3", (1, 1)), ("1 1\n1 1", (1, 2)), ("1 3\n2 1", (2, 1)), ("1 3\n3 2", (2, 2)),
            ("2 3\n3 1", (1, 1)), ("1 2 3\n2 1 2\n2 2 1", (3, 1)), ("0 0\n0 0", (1, 1)), ("1 0\n0 0", (2, 2)),
        ):
            self.refused(BadBonds, lambda: read_bonds(text), place=place)
        self.refused(BadText, lambda: read_bonds("3 3\n3 1 "), place=7)

    def test_too_many_letters(self):
        for many in (61, 62, 1000, 10000):
            self.refused(TooGreat, lambda: read_word(" ".join("1" * many)), most=60)
        self.refused(BadText, lambda: read_word(" ".join("1" * 61) + " "), place=122)
        self.refused(BadText, lambda: read_word(" ".join("1" * 61) + " 7"), place=122)


if __name__ == "__main__":
    unittest.main()
