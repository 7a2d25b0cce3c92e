"""A test case that tells which error a call raises, and with which fields."""

import unittest

from bondwords.errors import BadChoice, BadWord, TooGreat
from samples import NO_CHOICES, NO_WORDS, TOO_LONG


class RefusalCase(unittest.TestCase):

    def refused(self, error, call, **fields):
        with self.assertRaises(error) as caught:
            call()
        self.assertIs(type(caught.exception), error)
        for name, value in fields.items():
            self.assertEqual(getattr(caught.exception, name), value)

    def refuses_no_words(self, call):
        """That the call refuses all that is no word of three letters, as point [10] tells."""
        for word, place in NO_WORDS:
            with self.subTest(word=word):
                self.refused(BadWord, lambda: call(word), place=place)
        for word in TOO_LONG:
            with self.subTest(word=word):
                self.refused(TooGreat, lambda: call(word), most=60)

    def refuses_no_choices(self, call):
        """That the call refuses all that is no choice of three letters, as point [41] tells."""
        for choice in NO_CHOICES:
            with self.subTest(choice=choice):
                with self.assertRaises(BadChoice) as caught:
                    call(choice)
                self.assertIs(caught.exception.value, choice)
