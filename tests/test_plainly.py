"""Points 22 to 24: when a question holds of a document, asked plainly and by the postings."""

import copy
import itertools
import random
import unittest

from asked import (documents_of, fields_plainly, holds_plainly, some_question, stand_of, word_document)
from findcourt.answers import answers_of
from findcourt.plainly import holds, plain_answers

FIELDS = {
    "body": "the old house the old garden by the sea".split(),
    "note": "sea".split(),
    "title": "old house by the garden".split(),
}
KINDS = [("word", "{}", "sea"), ("like", "{}", "s?a"), ("row", "{}", ["sea"]), ("near", "{}", 1, ["sea"]),
         ("chain", "{}", 1, ["sea"])]


def in_field(question, field):
    return tuple([question[0], field, *question[2:]])


class Asked(unittest.TestCase):
    def check(self, fields, question, expected):
        """Asks of one document: plainly of its words, and of a stand in both ways."""
        handed = copy.deepcopy((fields, question))
        self.assertIs(holds(fields, question), expected, question)
        document = [(field, " ".join(fields[field])) for field in sorted(fields)]
        stand = stand_of([], document, [("other", "other words")])
        for ask in (answers_of, plain_answers):
            self.assertIs(1 in ask(stand, question), expected, (ask, question))
        self.assertEqual((fields, question), handed)

    def check_text(self, text, question, expected):
        self.check({"a": text.split()} if text else {}, in_field(question, "a"), expected)


class Fields(Asked):
    def test_each_kind_in_a_named_field(self):
        for question in KINDS:
            for field, expected in (("body", True), ("note", True), ("title", False)):
                self.check(FIELDS, in_field(question, field), expected)

    def test_each_kind_in_any_field(self):
        for question in KINDS:
            self.check(FIELDS, in_field(question, "*"), True)
            self.check({"note": ["sea"]}, in_field(question, "*"), True)
            self.check({"a": ["see"], "z": ["sea"]}, in_field(question, "*"), True)
            self.check({"a": ["see"], "z": ["seas"]}, in_field(question, "*"), False)

    def test_each_kind_in_a_field_that_the_document_has_not(self):
        for question in KINDS:
            for field in ("lone", "bod", "bodyy", "other"):
                self.check(FIELDS, in_field(question, field), False)

    def test_each_kind_in_a_document_without_words(self):
        for question in KINDS:
            for field in ("body", "*"):
                self.check({}, in_field(question, field), False)
        stand = stand_of([("body", " - "), ("title", "")])
        for question in KINDS + [("like", "{}", "*")]:
            for field in ("body", "*"):
                self.assertEqual(answers_of(stand, in_field(question, field)), [])
                self.assertEqual(plain_answers(stand, in_field(question, field)), [])

    def test_a_field_with_no_words_in_the_dict(self):
        for question in KINDS + [("like", "{}", "*")]:
            for field in ("a", "*"):
                self.assertIs(holds({"a": []}, in_field(question, field)), False)

    def test_any_field_is_one_field(self):
        fields = {"a": ["x", "p"], "b": ["y"], "c": ["p", "z"]}
        for question in (("row", "*", ["x", "y"]), ("near", "*", 20, ["x", "y"]), ("chain", "*", 20, ["x", "y"]),
                         ("near", "*", 20, ["y", "z"]), ("chain", "*", 20, ["x", "y", "z"]),
                         ("near", "*", 20, ["p", "p"])):
            self.check(fields, question, False)
        for question in (("row", "*", ["p", "z"]), ("near", "*", 2, ["z", "p"]), ("chain", "*", 2, ["x", "p"])):
            self.check(fields, question, True)
        self.check(fields, ("both", [("word", "*", "x"), ("word", "*", "y"), ("word", "*", "z")]), True)


class Words(Asked):
    def test_once_more_often_not_at_all(self):
        for word, expected in (("house", True), ("the", True), ("old", True), ("sea", True), ("hous", False),
                               ("houses", False), ("ous", False), ("title", False), ("body", False)):
            self.check(FIELDS, ("word", "body", word), expected)

    def test_figures_and_great_letters(self):
        stand = stand_of([("a", "Room 12, ROOM-7b")])
        for word, expected in (("room", [0]), ("12", [0]), ("7b", [0]), ("7", []), ("room12", [])):
            for ask in (answers_of, plain_answers):
                self.assertEqual(ask(stand, ("word", "a", word)), expected)

    def test_a_word_of_more_than_forty_signs(self):
        self.check_text("x" * 45, ("word", "a", "x" * 45), True)
        self.check_text("x" * 45, ("word", "a", "x" * 44), False)


class Like(Asked):
    def test_patterns(self):
        for pattern, expected in (("house", True), ("hous", False), ("h????", True), ("h???", False), ("*", True),
                                  ("?", False), ("??", True), ("*s*", True), ("*q*", False), ("h*e", True),
                                  ("*den", True), ("*den?", False), ("o*d", True), ("*?*?*?*?*?*?*", True),
                                  ("*?*?*?*?*?*?*?*", False), ("s?a*", True)):
            self.check(FIELDS, ("like", "body", pattern), expected)

    def test_one_word_among_the_others_is_enough(self):
        self.check_text("p p p xy", ("like", "a", "x*"), True)
        self.check_text("xy p p p", ("like", "a", "x*"), True)


class Row(Asked):
    def test_of_one_word(self):
        for word in ("the", "sea", "garden"):
            self.check(FIELDS, ("row", "body", [word]), True)
        self.check(FIELDS, ("row", "body", ["title"]), False)

    def test_at_the_beginning_within_and_at_the_end(self):
        words = FIELDS["body"]
        for begin in range(len(words)):
            for end in range(begin + 1, min(begin + 6, len(words)) + 1):
                self.check(FIELDS, ("row", "body", words[begin:end]), True)

    def test_broken_at_each_place(self):
        words = "a b c d e f".split()
        for at in range(6):
            broken = list(words)
            broken[at] = "q"
            self.check({"a": words}, ("row", "a", broken), False)
            self.check({"a": broken}, ("row", "a", words), False)
            self.check({"a": broken + words}, ("row", "a", words), True)

    def test_beyond_either_end(self):
        self.check_text("x y", ("row", "a", ["x", "y", "z"]), False)
        self.check_text("y z", ("row", "a", ["x", "y", "z"]), False)
        self.check_text("x", ("row", "a", ["x", "x"]), False)

    def test_the_same_word_more_than_once(self):
        self.check_text("x y x", ("row", "a", ["x", "y", "x"]), True)
        self.check_text("x y x", ("row", "a", ["x", "x"]), False)
        self.check_text("x x x", ("row", "a", ["x", "x", "x"]), True)
        self.check_text("x x y x x", ("row", "a", ["x", "x", "x"]), False)
        self.check_text("x y x y x z", ("row", "a", ["x", "y", "x", "z"]), True)
        self.check_text("x y x z x y", ("row", "a", ["x", "y", "x", "y"]), False)

    def test_another_order_and_gaps(self):
        self.check_text("x y z", ("row", "a", ["y", "x"]), False)
        self.check_text("x y z", ("row", "a", ["x", "z"]), False)


class Near(Asked):
    def test_just_wide_enough_and_one_less(self):
        for gap in range(0, 19):
            text = " ".join(["p", "x"] + ["p"] * gap + ["y", "p"])
            for words in (["x", "y"], ["y", "x"]):
                self.check_text(text, ("near", "a", gap + 2, words), True)
                self.check_text(text, ("near", "a", gap + 1, words), False)

    def test_every_width(self):
        for width in range(1, 21):
            text = " ".join(["x"] + ["p"] * (width - 2) + ["y"])
            self.check_text(text, ("near", "a", width, ["y", "x"]), width > 1)
            self.check_text(text + " p", ("near", "a", width, ["x"]), True)

    def test_beyond_twenty(self):
        self.check_text(" ".join(["x"] + ["p"] * 20 + ["y"]), ("near", "a", 22, ["x", "y"]), True)
        self.check_text(" ".join(["x"] + ["p"] * 20 + ["y"]), ("near", "a", 21, ["x", "y"]), False)

    def test_the_same_word_more_often_than_it_stands(self):
        self.check_text("x y", ("near", "a", 20, ["x", "x"]), False)
        self.check_text("x y x", ("near", "a", 20, ["x", "x"]), True)
        self.check_text("x y x", ("near", "a", 20, ["x", "x", "x"]), False)
        self.check_text("x y x x", ("near", "a", 20, ["x", "x", "x"]), True)
        self.check_text("x y x x", ("near", "a", 3, ["x", "x", "x"]), False)
        self.check_text("x y x x", ("near", "a", 4, ["x", "y", "x", "x"]), True)
        self.check_text("x y x x", ("near", "a", 4, ["x", "y", "y"]), False)

    def test_the_first_choice_is_given_up(self):
        self.check_text("x p p x y", ("near", "a", 2, ["x", "y"]), True)
        self.check_text("x y p p p y z x", ("near", "a", 3, ["x", "y", "z"]), True)
        self.check_text("y p x p y x", ("near", "a", 2, ["x", "y"]), True)
        self.check_text("x x p p x x x", ("near", "a", 3, ["x", "x", "x"]), True)

    def test_any_order(self):
        for words in itertools.permutations(["x", "y", "z"]):
            self.check_text("y z x", ("near", "a", 3, list(words)), True)
            self.check_text("y z x", ("near", "a", 2, list(words)), False)

    def test_six_words(self):
        self.check_text("a b c a b c", ("near", "a", 6, ["c", "b", "a", "a", "b", "c"]), True)
        self.check_text("a b c a b c", ("near", "a", 5, ["c", "b", "a", "a", "b", "c"]), False)


class Chain(Asked):
    def test_just_wide_enough_and_one_less(self):
        for gap in range(0, 19):
            text = " ".join(["p", "x"] + ["p"] * gap + ["y", "p"])
            self.check_text(text, ("chain", "a", gap + 2, ["x", "y"]), True)
            self.check_text(text, ("chain", "a", gap + 1, ["x", "y"]), False)
            self.check_text(text, ("chain", "a", 20, ["y", "x"]), False)

    def test_every_width(self):
        for width in range(1, 21):
            text = " ".join(["x"] + ["p"] * (width - 2) + ["y"])
            self.check_text(text, ("chain", "a", width, ["x", "y"]), width > 1)
            self.check_text(text + " p", ("chain", "a", width, ["y"]), True)

    def test_the_same_word_more_often_than_it_stands(self):
        self.check_text("x y", ("chain", "a", 20, ["x", "x"]), False)
        self.check_text("x y x", ("chain", "a", 20, ["x", "x"]), True)
        self.check_text("x y x", ("chain", "a", 20, ["x", "x", "x"]), False)
        self.check_text("x y x x", ("chain", "a", 4, ["x", "x", "x"]), True)
        self.check_text("x y x x", ("chain", "a", 3, ["x", "x", "x"]), False)
        self.check_text("x y x x", ("chain", "a", 3, ["x", "x"]), True)

    def test_another_order(self):
        for words in itertools.permutations(["x", "y", "z"]):
            self.check_text("y z x", ("chain", "a", 20, list(words)), list(words) == ["y", "z", "x"])

    def test_the_first_choice_is_given_up(self):
        self.check_text("x p p x y", ("chain", "a", 2, ["x", "y"]), True)
        self.check_text("x y p p x p y z", ("chain", "a", 4, ["x", "y", "z"]), True)
        self.check_text("x y p p x p y z", ("chain", "a", 3, ["x", "y", "z"]), False)
        self.check_text("y x y p x z y z", ("chain", "a", 3, ["x", "z", "y"]), True)

    def test_the_first_place_behind(self):
        # The first y behind x leaves room for z within the width, the second does not.
        self.check_text("x y z y p z", ("chain", "a", 3, ["x", "y", "z"]), True)
        self.check_text("x y y z", ("chain", "a", 4, ["x", "y", "z"]), True)


class PutTogether(Asked):
    YES = ("word", "body", "sea")
    NO = ("word", "title", "sea")

    def test_both(self):
        for parts, expected in (([], True), ([self.YES], True), ([self.NO], False), ([self.YES, self.YES], True),
                                ([self.YES, self.NO], False), ([self.NO, self.YES], False),
                                ([self.NO, self.NO], False), ([self.YES] * 5 + [self.NO], False),
                                ([self.YES] * 6, True)):
            self.check(FIELDS, ("both", parts), expected)
        self.check({}, ("both", []), True)

    def test_one(self):
        for parts, expected in (([], False), ([self.YES], True), ([self.NO], False), ([self.YES, self.YES], True),
                                ([self.YES, self.NO], True), ([self.NO, self.YES], True),
                                ([self.NO, self.NO], False), ([self.NO] * 5 + [self.YES], True),
                                ([self.NO] * 6, False)):
            self.check(FIELDS, ("one", parts), expected)
        self.check({}, ("one", []), False)

    def test_not_of_each_kind(self):
        for question in KINDS:
            for field, expected in (("body", False), ("title", True), ("lone", True), ("*", False)):
                self.check(FIELDS, ("not", in_field(question, field)), expected)
            self.check({}, ("not", in_field(question, "*")), True)
        self.check(FIELDS, ("not", ("both", [])), False)
        self.check(FIELDS, ("not", ("one", [])), True)
        self.check(FIELDS, ("not", ("both", [self.YES, self.NO])), True)
        self.check(FIELDS, ("not", ("one", [self.YES, self.NO])), False)
        self.check(FIELDS, ("not", ("not", self.YES)), True)
        self.check(FIELDS, ("not", ("not", self.NO)), False)

    def test_within_one_another(self):
        for deep in range(1, 9):
            question, expected = self.YES, True
            for at in range(deep - 1):
                question, expected = ("not", question), not expected
            self.check(FIELDS, question, expected)
        for question, expected in ((self.YES, True), (self.NO, False)):
            for deep in range(7):
                question = ("both", [question, ("one", [])]) if deep % 4 == 3 else (
                    "one", [("both", [question]), ("one", [])]) if deep % 2 else ("both", [question, ("both", [])])
                expected = expected and deep % 4 != 3
                self.check(FIELDS, question, expected)

    def test_by_chance(self):
        chance = random.Random(10)
        seen = []
        for time in range(400):
            document = word_document(chance)
            fields = fields_plainly(document)
            question = some_question(chance, chance.randint(1, 5))
            expected = holds_plainly(fields, question)
            self.check(fields, question, expected)
            seen.append(expected)
        self.assertGreater(min(seen.count(True), seen.count(False)), 100)

    def test_answers_are_the_numbers_of_the_documents_in_which_it_holds(self):
        stand = documents_of("x", "y", None, "x y", "", "y x")
        for question, expected in ((("word", "a", "x"), [0, 3, 5]), (("not", ("word", "a", "x")), [1, 2, 4]),
                                   (("both", []), [0, 1, 2, 3, 4, 5]), (("one", []), []),
                                   (("row", "a", ["x", "y"]), [3]), (("near", "a", 2, ["x", "y"]), [3, 5])):
            for ask in (answers_of, plain_answers):
                self.assertEqual(ask(stand, question), expected)


if __name__ == "__main__":
    unittest.main()
