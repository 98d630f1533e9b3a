"""Points 2, 3 and 25: the answers told plainly and by the postings alone."""

import copy
import random
import unittest
from unittest import mock

from asked import answers_plainly, documents_of, some_history, some_question, stand_of, stands_of
from findcourt.answers import answers_of
from findcourt.house import House
from findcourt.patterns import words_like
from findcourt.plainly import plain_answers
from findcourt.stands import Stand
from helpers import change_all

BOTH_WAYS = (answers_of, plain_answers)


def never(*handed):
    raise AssertionError("not to be asked for")


class BothWays(unittest.TestCase):
    def check(self, stand, question, expected):
        handed = copy.deepcopy(question)
        for ask in BOTH_WAYS:
            told = ask(stand, question)
            self.assertEqual(told, expected, (ask, question))
            self.assertIs(type(told), list)
            change_all(told)
            self.assertEqual(ask(stand, question), expected)
        self.assertEqual(question, handed)

    def test_not_of_none_and_of_all(self):
        stand = documents_of("x", None, "y", "", "x y")
        for none in (("word", "a", "q"), ("word", "b", "x"), ("one", []), ("not", ("both", [])),
                     ("chain", "a", 1, ["x", "y"])):
            self.check(stand, none, [])
            self.check(stand, ("not", none), [0, 1, 2, 3, 4])
        self.check(stand, ("not", ("like", "*", "*")), [1, 3])
        self.check(stand, ("not", ("word", "*", "x")), [1, 2, 3])
        self.check(stand, ("not", ("both", [("word", "a", "x"), ("word", "a", "y")])), [0, 1, 2, 3])
        self.check(stand, ("not", ("one", [("word", "a", "x"), ("not", ("word", "a", "y"))])), [2])

    def test_stands_without_documents(self):
        for question in (("both", []), ("not", ("word", "a", "x")), ("word", "*", "x"), ("like", "a", "*")):
            self.check(House().now(), question, [])

    def test_numbers_are_those_of_the_documents(self):
        house = House()
        for text in ("x", "y", "x y", "x", "y"):
            house.put([("a", text)])
        first = house.stamp()
        house.take(0)
        house.change(1, [("a", "x")])
        house.change(3, [("b", "x")])
        house.put([("a", "x")])
        for deeds in ([], [house.seal], [lambda: house.pack(0)], [house.thin], [house.seal, lambda: house.pour(0, 1)]):
            for deed in deeds:
                deed()
            self.check(house.stand(first), ("word", "a", "x"), [0, 2, 3])
            self.check(house.stand(first), ("not", ("word", "a", "x")), [1, 4])
            self.check(house.now(), ("word", "a", "x"), [1, 2, 5])
            self.check(house.now(), ("word", "*", "x"), [1, 2, 3, 5])
            self.check(house.now(), ("not", ("word", "a", "x")), [3, 4])

    def test_the_same_word_in_several_fields_is_one_answer(self):
        stand = stand_of([("a", "x x"), ("b", "x")], [("b", "x")])
        for question in (("word", "*", "x"), ("like", "*", "*"), ("one", [("word", "a", "x"), ("word", "b", "x")])):
            self.check(stand, question, [0, 1])

    def test_histories_by_chance(self):
        chance = random.Random(25)
        found = 0
        for time in range(60):
            house, plain = some_history(chance, 30)
            for stand, documents in stands_of(house, plain):
                for at in range(9):
                    question = some_question(chance, 4)
                    expected = answers_plainly(documents, question)
                    self.check(stand, question, expected)
                    found += 0 < len(expected) < len(documents)
        self.assertGreater(found, 200)

    def test_what_is_handed_in_may_be_changed_behind(self):
        stand = documents_of("x y", "y x")
        question = ("both", [("row", "a", ["x", "y"])])
        told = answers_of(stand, question)
        question[1][0][2].reverse()
        self.assertEqual(told, [0])
        self.assertEqual(answers_of(stand, question), [1])

    def test_asking_changes_nothing_in_the_house(self):
        house, plain = some_history(random.Random(3), 40)
        pieces = house.pieces()
        stand = house.now()
        for question in (("like", "*", "*"), ("not", ("near", "*", 3, ["x", "y"]))):
            for ask in BOTH_WAYS:
                change_all(ask(stand, question))
        self.assertEqual(house.pieces(), pieces)


class ByThePostingsAlone(unittest.TestCase):
    def test_no_text_is_looked_at(self):
        house, plain = some_history(random.Random(5), 60)
        stand = house.now()
        questions = [some_question(random.Random(seed), 4) for seed in range(60)]
        expected = [plain_answers(stand, question) for question in questions]
        with mock.patch.multiple(Stand, text=never, document=never, words_by_field=never, length=never):
            self.assertEqual([answers_of(stand, question) for question in questions], expected)

    def test_plainly_no_postings_are_looked_at(self):
        house, plain = some_history(random.Random(6), 60)
        stand = house.now()
        questions = [some_question(random.Random(seed), 4) for seed in range(60)]
        expected = [answers_of(stand, question) for question in questions]
        with mock.patch.multiple(Stand, postings=never, stretches=never, words=never, fields=never, length=never):
            self.assertEqual([plain_answers(stand, question) for question in questions], expected)

    def test_only_postings_of_the_words_asked_for(self):
        stand = stand_of([("a", "x y z")], [("a", "y"), ("b", "x")])
        asked = []
        plain = Stand.postings

        def postings(self, field, word):
            asked.append((field, word))
            return plain(self, field, word)

        with mock.patch.object(Stand, "postings", postings):
            for question in (("word", "a", "x"), ("like", "a", "x"), ("row", "a", ["x", "x"]),
                             ("not", ("chain", "a", 2, ["x"]))):
                answers_of(stand, question)
        self.assertEqual(sorted(set(asked)), [("a", "x")])
        self.assertEqual(words_like(stand, "a", "x"), ["x"])


if __name__ == "__main__":
    unittest.main()
