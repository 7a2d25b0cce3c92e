"""A test case that tells which error a call raises, and with which fields."""

import unittest

from bondwords.errors import BadWord, TooGreat
from samples import NO_WORDS, TOO_LONG


class RefusalCase(unittest.TestCase):

    def refused(self, error, call, **fields):
        with self.assertRaises(error) as caught:
            call()
        self.assertIs(type(caught.exception), error)
        for name, value in fields.items():
            self.assertEqual(getattr(caught.exception, name), value)

    def refuses_no_words(self, call):
        """That the call refuses all that is no word of three letters, as point [10] tells."""
        for word, place in NO_WORDS:
            with self.subTest(word=word):
                self.refused(BadWord, lambda: call(word), place=place)
        for word in TOO_LONG:
            with self.subTest(word=word):
                self.refused(TooGreat, lambda: call(word), most=60)
