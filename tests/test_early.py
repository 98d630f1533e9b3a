"""Points 30 and 31: the best so many told early and by stretches, with those looked at."""

import copy
import random
import unittest
from unittest import mock

from asked import documents_of, some_history, some_question, stand_of, stands_of
from findcourt.answers import answers_of
from findcourt.early import early_best, stretched_best
from findcourt.house import House
from findcourt.worths import Scale, best_of, worth_of
from helpers import change_all
from weighed import Fraction, best_plainly, worth_plainly

BOTH_WAYS = (early_best, stretched_best)


class Early(unittest.TestCase):
    def check(self, stand, documents, question, many):
        """Tells how many answers were passed by, in both ways."""
        handed = copy.deepcopy(question)
        answers = answers_of(stand, question)
        expected = best_plainly(documents, question, many)
        passed = []
        for ask in BOTH_WAYS:
            told = ask(stand, question, many)
            self.assertIs(type(told), tuple)
            best, looked = told
            self.assertEqual(best, expected)
            self.assertEqual(best, best_of(stand, question, many))
            self.assertIs(type(looked), list)
            self.assertEqual(looked, sorted(set(looked)))
            for number in looked:
                self.assertIn(number, answers)
            for number, worth in best:
                self.assertIn(number, looked)
            if len(best) < many:
                self.assertEqual(looked, answers)
            for number in answers:
                if number not in looked:
                    self.assertLess(worth_plainly(documents, number, question), Fraction(*best[-1][1]))
            passed.append(len(answers) - len(looked))
            again = copy.deepcopy(told)
            change_all(told)
            self.assertEqual(ask(stand, question, many), again)
        self.assertEqual(question, handed)
        return passed

    def check_texts(self, texts, question, many):
        documents = {number: [("a", text)] for number, text in enumerate(texts)}
        return self.check(documents_of(*texts), documents, question, many)

    def test_few_and_no_answers(self):
        texts = ["x", "y", "x x", ""]
        for many in (1, 2, 3, 20, 21):
            for question in (("word", "a", "x"), ("word", "a", "q"), ("one", []), ("both", []),
                             ("not", ("word", "a", "x")), ("like", "*", "*")):
                self.check_texts(texts, question, many)
        for ask in BOTH_WAYS:
            self.assertEqual(ask(House().now(), ("both", []), 3), ([], []))
            self.assertEqual(ask(documents_of("x", "y", "x"), ("word", "a", "x"), 0), ([], [0, 2]))

    def test_like_worths_are_looked_at(self):
        # The bound of each is its worth: those alike with the last told one are not passed by.
        for many in (1, 3, 9):
            self.assertEqual(self.check_texts(["x"] * 10, ("word", "a", "x"), many), [0, 0])
        for ask in BOTH_WAYS:
            best, looked = ask(documents_of(*["x"] * 10), ("word", "a", "x"), 2)
            self.assertEqual([number for number, worth in best], [0, 1])
            self.assertEqual(looked, list(range(10)))
            self.assertEqual(ask(documents_of("x", "y", "z"), ("not", ("word", "a", "q")), 1), ([(0, (0, 1))], [0, 1, 2]))

    def test_documents_with_the_lesser_leaves_are_passed_by(self):
        # A rare word brings more than the one that nearly all have.
        texts = ["x"] * 9 + ["x y", "y"]
        question = ("one", [("word", "a", "x"), ("word", "a", "y")])
        self.assertEqual(self.check_texts(texts, question, 1), [10, 10])
        self.assertEqual(self.check_texts(texts, question, 2), [9, 9])
        self.assertEqual(self.check_texts(texts, question, 3), [0, 0])

    def test_only_those_looked_at_are_worked_out(self):
        texts = ["x"] * 9 + ["x y", "y"]
        question = ("one", [("word", "a", "x"), ("word", "a", "y")])
        stand = documents_of(*texts)
        plain = Scale.worth
        for ask in BOTH_WAYS:
            asked = []

            def worth(self, number):
                asked.append(number)
                return plain(self, number)

            with mock.patch.object(Scale, "worth", worth):
                told = ask(stand, question, 2)
            self.assertEqual(sorted(asked), told[1])
            self.assertEqual(told[1], [9, 10])

    def test_stretches_bar_more(self):
        # Many places in the first stretch, one in each document of the later ones.
        texts = ["x x x x x x x x"] * 4 + ["x"] + ["x p p p p p p p"] * 20
        tops, stretches = self.check_texts(texts, ("word", "a", "x"), 4)
        self.assertEqual(tops, 0)
        self.assertEqual(stretches, 21)

    def test_stretches_that_a_document_lies_in(self):
        # Number 4 lies within a stretch of x that it has no place in.
        house = House()
        for text in ["x x x", "x", "x", "y", "y", "x", "x", "x", "x x", "y x", "x"]:
            house.put([("a", text)])
        documents = {number: house.now().document(number) for number in house.numbers()}
        self.assertEqual(house.now().stretches("a", "x"), [(0, 5, 3), (6, 9, 2), (10, 10, 1)])
        for many in range(1, 12):
            for question in (("like", "a", "?"), ("one", [("word", "a", "x"), ("word", "a", "y")]),
                             ("not", ("word", "a", "q")), ("word", "a", "y")):
                self.check(house.now(), documents, question, many)

    def test_several_stretches_by_chance(self):
        chance = random.Random(31)
        passed = [0, 0]
        for time in range(60):
            texts = [" ".join(chance.choices(["x", "y", "z", "p"], weights=[6, 3, 1, chance.choice([1, 20])],
                                             k=chance.choice([1, 2, 9, 30]))) for at in range(30)]
            question = chance.choice([("word", "a", "x"), ("like", "*", "?"), ("near", "a", 9, ["x", "y"]),
                                      ("one", [("word", "a", "y"), ("word", "a", "z")]),
                                      ("both", [("word", "*", "x"), ("not", ("word", "*", "z"))])])
            more = self.check_texts(texts, question, chance.randint(1, 5))
            passed = [passed[0] + more[0], passed[1] + more[1]]
        self.assertGreater(passed[0], 50)
        self.assertGreater(passed[1], 50)

    def test_histories_by_chance(self):
        chance = random.Random(30)
        for time in range(40):
            house, plain = some_history(chance, 40)
            for stand, documents in stands_of(house, plain):
                for at in range(2):
                    self.check(stand, documents, some_question(chance, 3), chance.randint(1, 4))

    def test_fields_that_differ(self):
        stand = stand_of([("a", "x")], [("b", "x")], [("a", "x"), ("b", "x")], [("c", "x")])
        for ask in BOTH_WAYS:
            best, looked = ask(stand, ("word", "*", "x"), 2)
            self.assertEqual(best[0], (2, worth_of(stand, 2, ("word", "*", "x"))))
            self.assertEqual(best, best_of(stand, ("word", "*", "x"), 2))


if __name__ == "__main__":
    unittest.main()
