"""Points 2, 4 and 5: documents, and the words of texts."""

import copy
import random
import re
import unittest

from findcourt.errors import NoField
from findcourt.words import is_name, is_word, look_at_document, words_of
from helpers import SIGNS


class Documents(unittest.TestCase):
    def refused_at(self, document):
        before = copy.deepcopy(document)
        with self.assertRaises(NoField) as caught:
            look_at_document(document)
        self.assertEqual(document, before)
        return caught.exception.place

    def test_right_documents(self):
        for document in (
                [],
                [("title", "A house")],
                [("a", "")],
                [("abcdefghijkl", "x")],
                [("a", "x"), ("abcdefghijkl", "y"), ("b", "x")],
                [("az", "x"), ("b", "x")],
                [("a", "x"), ("aa", "x"), ("ab", "x"), ("z", "x")]):
            before = copy.deepcopy(document)
            self.assertIsNone(look_at_document(document))
            self.assertEqual(document, before)

    def test_every_small_letter_is_a_names(self):
        for letter in "abcdefghijklmnopqrstuvwxyz":
            self.assertIsNone(look_at_document([(letter, "")]))

    def test_twenty_fields(self):
        letters = "abcdefghijklmnopqrst"
        self.assertIsNone(look_at_document([(letter, "word") for letter in letters]))

    def test_fields_that_are_no_names(self):
        for field in ("", "abcdefghijklm", "Title", "titlE", "field1", "1", "a b", " a", "a ",
                      "*", "a-b", "a_b"):
            self.assertEqual(self.refused_at([(field, "x")]), 0, field)

    def test_every_sign_but_small_letters_is_no_names(self):
        for sign in SIGNS:
            if not re.fullmatch("[a-z]", sign):
                for field in (sign, "b" + sign, sign + "b", "b" + sign + "b"):
                    self.assertEqual(self.refused_at([("a", "x"), (field, "x")]), 1, field)

    def test_fields_that_do_not_rise(self):
        self.assertEqual(self.refused_at([("a", "x"), ("a", "x")]), 1)
        self.assertEqual(self.refused_at([("a", "x"), ("a", "other")]), 1)
        self.assertEqual(self.refused_at([("b", "x"), ("a", "x")]), 1)
        self.assertEqual(self.refused_at([("ab", "x"), ("a", "x")]), 1)
        self.assertEqual(self.refused_at([("a", "x"), ("c", "x"), ("b", "x")]), 2)
        self.assertEqual(self.refused_at([("a", ""), ("b", ""), ("c", ""), ("c", "")]), 3)

    def test_names_by_themselves(self):
        for text in ("a", "z", "abcdefghijkl"):
            self.assertTrue(is_name(text), text)
        # In a document an empty field also fails to rise, so it is asked here alone.
        for text in ("", "abcdefghijklm", "A", "a1", "*"):
            self.assertFalse(is_name(text), text)

    def test_order_is_that_of_texts_and_not_of_lengths(self):
        self.assertEqual(self.refused_at([("b", "x"), ("aa", "x")]), 1)
        self.assertIsNone(look_at_document([("aa", "x"), ("b", "x")]))

    def test_of_several_wrong_ones_the_first(self):
        self.assertEqual(self.refused_at([("b", "x"), ("a", "x"), ("A", "x")]), 1)
        self.assertEqual(self.refused_at([("b", "x"), ("", "x"), ("a", "x")]), 1)
        self.assertEqual(self.refused_at([("1", "x"), ("b", "x"), ("a", "x")]), 0)
        self.assertEqual(self.refused_at([("a", ""), ("b", ""), ("C", ""), ("b", ""), ("", "")]), 2)

    def test_a_field_is_set_against_the_one_straight_ahead(self):
        self.assertEqual(self.refused_at([("a", ""), ("c", ""), ("b", ""), ("d", "")]), 2)

    def test_no_text_is_refused(self):
        self.assertIsNone(look_at_document([("a", "".join(SIGNS)), ("b", "x" * 2000)]))


class Words(unittest.TestCase):
    def test_texts_without_words(self):
        self.assertEqual(words_of(""), [])
        self.assertEqual(words_of(" "), [])
        self.assertEqual(words_of("  .,;'\"!? -_/~ "), [])

    def test_ordinary_texts(self):
        self.assertEqual(words_of("The old house"), [("the", 0, 3), ("old", 4, 7), ("house", 8, 13)])
        self.assertEqual(words_of("a"), [("a", 0, 1)])
        self.assertEqual(words_of("7"), [("7", 0, 1)])

    def test_words_at_the_very_beginning_and_end(self):
        self.assertEqual(words_of("ab, cd"), [("ab", 0, 2), ("cd", 4, 6)])
        self.assertEqual(words_of(".ab, cd."), [("ab", 1, 3), ("cd", 5, 7)])
        self.assertEqual(words_of("a b"), [("a", 0, 1), ("b", 2, 3)])
        self.assertEqual(words_of("  a"), [("a", 2, 3)])
        self.assertEqual(words_of("a  "), [("a", 0, 1)])

    def test_great_letters_and_figures(self):
        self.assertEqual(words_of("ABC abC 1a2B 0090"),
                         [("abc", 0, 3), ("abc", 4, 7), ("1a2b", 8, 12), ("0090", 13, 17)])
        self.assertEqual(words_of("AZaz09"), [("azaz09", 0, 6)])

    def test_a_word_more_than_once(self):
        self.assertEqual(words_of("x X-x"), [("x", 0, 1), ("x", 2, 3), ("x", 4, 5)])

    def test_signs_between_part_words(self):
        self.assertEqual(words_of("it's a_b c-d"),
                         [("it", 0, 2), ("s", 3, 4), ("a", 5, 6), ("b", 7, 8), ("c", 9, 10), ("d", 11, 12)])

    def test_every_sign_either_parts_or_belongs(self):
        for sign in SIGNS:
            if re.fullmatch("[A-Za-z0-9]", sign):
                self.assertEqual(words_of("b" + sign + "c"), [("b" + sign.lower() + "c", 0, 3)], sign)
                self.assertEqual(words_of(sign), [(sign.lower(), 0, 1)], sign)
            else:
                self.assertEqual(words_of("b" + sign + "c"), [("b", 0, 1), ("c", 2, 3)], sign)
                self.assertEqual(words_of(sign), [], sign)

    def test_all_signs_in_one_text(self):
        text = "".join(SIGNS)
        self.assertEqual([word for word, begin, end in words_of(text)],
                         ["0123456789", "abcdefghijklmnopqrstuvwxyz", "abcdefghijklmnopqrstuvwxyz"])

    def test_long_texts(self):
        self.assertEqual(words_of("Q" * 2000), [("q" * 2000, 0, 2000)])
        self.assertEqual(words_of("a " * 1000), [("a", 2 * k, 2 * k + 1) for k in range(1000)])

    def test_against_plain_looking(self):
        chance = random.Random(5)
        for case in range(500):
            text = "".join(chance.choices(SIGNS + list("ab  ") * 10, k=chance.randrange(60)))
            plain = [(found.group().lower(), found.start(), found.end())
                     for found in re.finditer("[A-Za-z0-9]+", text)]
            self.assertEqual(words_of(text), plain, text)

    def test_words_by_themselves(self):
        for text in ("a", "7", "0a", "az09", "q" * 2000):
            self.assertTrue(is_word(text), text)
        for sign in SIGNS:
            self.assertEqual(is_word(sign), re.fullmatch("[a-z0-9]", sign) is not None, sign)
        for text in ("", "A", "aB", "a b", " a", "a ", "a'"):
            self.assertFalse(is_word(text), text)

    def test_the_told_list_is_the_askers_own(self):
        first = words_of("one two")
        first.append(("three", 8, 13))
        first[0] = None
        self.assertEqual(words_of("one two"), [("one", 0, 3), ("two", 4, 7)])
        kept = words_of("one two")
        words_of("other words")
        self.assertEqual(kept, [("one", 0, 3), ("two", 4, 7)])

    def test_kinds(self):
        told = words_of("one two")
        self.assertIs(type(told), list)
        for entry in told:
            self.assertIs(type(entry), tuple)


if __name__ == "__main__":
    unittest.main()
