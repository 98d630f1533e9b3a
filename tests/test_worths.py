"""Points 2 and 27 to 30: weights, parts, worths, tops and the best so many."""

import copy
import random
import unittest
from fractions import Fraction
from math import gcd

from asked import documents_of, some_history, some_question, stand_of, stands_of
from findcourt.answers import answers_of
from findcourt.house import House
from findcourt.worths import best_of, part_of, top_of, weight_of, worth_of
from helpers import change_all
from weighed import best_plainly, pair, part_plainly, top_plainly, weight_plainly, worth_plainly

# Four documents, one of them without words: the mean of a is 9 by 4, that of b 2 by 4.
TEXTS = [[("a", "x y x"), ("b", "x")], [("a", "x"), ("b", "y")], [], [("a", "x z z z z")]]
STAND = stand_of(*TEXTS)
DOCUMENTS = dict(enumerate(TEXTS))


class Worths(unittest.TestCase):
    def check(self, told, top, bottom):
        self.assertEqual(told, (top, bottom))
        self.assertIs(type(told), tuple)
        for number in told:
            self.assertIs(type(number), int)
        self.assertGreaterEqual(told[1], 1)
        self.assertEqual(gcd(told[0], told[1]), 1)


class Weights(Worths):
    def test_of_words_in_none_some_and_all(self):
        self.check(weight_of(STAND, "a", "q"), 5, 1)
        self.check(weight_of(STAND, "a", "y"), 5, 2)
        self.check(weight_of(STAND, "a", "x"), 5, 4)
        self.check(weight_of(STAND, "b", "x"), 5, 2)
        self.check(weight_of(STAND, "c", "x"), 5, 1)
        self.check(weight_of(documents_of("x", "x x", "y x"), "a", "x"), 1, 1)
        self.check(weight_of(documents_of("x", "y", "z"), "a", "x"), 2, 1)

    def test_a_stand_without_documents(self):
        self.check(weight_of(House().now(), "a", "x"), 1, 1)
        self.check(weight_of(stand_of([]), "a", "x"), 2, 1)
        house = House()
        house.put([("a", "x")])
        house.take(0)
        self.check(weight_of(house.now(), "a", "x"), 1, 1)


class Parts(Worths):
    def test_of_words_that_stand_once_more_often_not_at_all(self):
        # 2 / (2 + 1/2 + 3 / (2 * 9/4)), and so on.
        self.check(part_of(STAND, 0, "a", "x"), 12, 19)
        self.check(part_of(STAND, 0, "a", "y"), 6, 13)
        self.check(part_of(STAND, 3, "a", "z"), *pair(4 / (4 + Fraction(1, 2) + 5 / Fraction(9, 2))))
        self.check(part_of(STAND, 0, "a", "z"), 0, 1)
        self.check(part_of(STAND, 0, "a", "q"), 0, 1)
        self.check(part_of(STAND, 2, "a", "x"), 0, 1)
        self.check(part_of(STAND, 3, "b", "x"), 0, 1)
        self.check(part_of(STAND, 0, "c", "x"), 0, 1)

    def test_short_and_long_fields(self):
        self.check(part_of(STAND, 1, "a", "x"), 18, 31)
        self.check(part_of(STAND, 3, "a", "x"), 18, 47)
        self.check(part_of(STAND, 0, "b", "x"), 2, 5)
        # Where all fields are alike long, l is m.
        self.check(part_of(documents_of("x y", "z z"), 0, "a", "x"), 1, 2)
        self.check(part_of(documents_of("x"), 0, "a", "x"), 1, 2)
        self.check(part_of(documents_of("x x x"), 0, "a", "x"), 3, 4)

    def test_documents_without_words_lessen_the_mean(self):
        self.check(part_of(documents_of("x", None, ""), 0, "a", "x"), 1, 3)

    def test_a_part_of_another_number(self):
        for number in (4, -1):
            self.check(part_of(STAND, number, "a", "x"), 0, 1)


class OfDocuments(Worths):
    def test_of_one_leaf(self):
        self.check(worth_of(STAND, 0, ("word", "a", "x")), 15, 19)
        self.check(worth_of(STAND, 0, ("word", "b", "x")), 1, 1)
        self.check(worth_of(STAND, 2, ("word", "a", "x")), 0, 1)
        self.check(worth_of(STAND, 0, ("word", "c", "x")), 0, 1)

    def test_of_several_fields(self):
        self.check(worth_of(STAND, 0, ("word", "*", "x")), 34, 19)
        self.check(worth_of(STAND, 1, ("word", "*", "x")), *pair(Fraction(5, 4) * Fraction(18, 31)))
        self.check(worth_of(STAND, 1, ("row", "*", ["x", "y"])), *pair(Fraction(5, 4) * Fraction(18, 31) + 1))

    def test_each_leaf_counts_once(self):
        once = worth_of(STAND, 0, ("word", "a", "x"))
        for question in (("both", [("word", "a", "x"), ("word", "a", "x")]), ("row", "a", ["x", "x", "x"]),
                         ("near", "a", 3, ["x", "x"]), ("chain", "a", 3, ["x", "x"]), ("like", "a", "x"),
                         ("one", [("like", "a", "x"), ("word", "a", "x"), ("not", ("word", "a", "y"))])):
            self.assertEqual(worth_of(STAND, 0, question), once)

    def test_of_documents_that_do_not_answer(self):
        question = ("both", [("word", "a", "x"), ("word", "a", "z")])
        self.assertEqual(answers_of(STAND, question), [3])
        for number in DOCUMENTS:
            self.check(worth_of(STAND, number, question), *pair(worth_plainly(DOCUMENTS, number, question)))
        self.check(worth_of(STAND, 0, question), 15, 19)
        self.check(worth_of(STAND, 0, ("row", "a", ["y", "y"])), *pair(Fraction(5, 2) * Fraction(6, 13)))

    def test_of_questions_without_leaves(self):
        for question in (("not", ("word", "a", "x")), ("both", []), ("one", []), ("like", "a", "q*"),
                         ("one", [("not", ("like", "*", "*")), ("both", [])]), ("like", "c", "*")):
            for number in DOCUMENTS:
                self.check(worth_of(STAND, number, question), 0, 1)

    def test_like(self):
        leaves = [("word", "a", word) for word in "xyz"]
        for number in DOCUMENTS:
            self.assertEqual(worth_of(STAND, number, ("like", "a", "?")), worth_of(STAND, number, ("one", leaves)))

    def test_by_chance(self):
        chance = random.Random(28)
        for time in range(30):
            house, plain = some_history(chance, 25)
            for stand, documents in stands_of(house, plain):
                question = some_question(chance, 3)
                handed = copy.deepcopy(question)
                for number in documents:
                    self.check(worth_of(stand, number, question), *pair(worth_plainly(documents, number, question)))
                for field, word in (("a", "x"), ("b", "y"), ("c", "q"), ("d", "x")):
                    self.check(weight_of(stand, field, word), *pair(weight_plainly(documents, field, word)))
                    self.check(top_of(stand, field, word), *pair(top_plainly(documents, field, word)))
                    for number in documents:
                        self.check(part_of(stand, number, field, word),
                                   *pair(part_plainly(documents, number, field, word)))
                self.assertEqual(question, handed)

    def test_great_numbers(self):
        texts = [" ".join(f"w{k}" for k in range(at, 60) if k % (at + 1) == 0) + " w0" * at for at in range(40)]
        stand = documents_of(*texts)
        documents = {number: [("a", text)] for number, text in enumerate(texts)}
        for number in (0, 1, 39):
            told = worth_of(stand, number, ("like", "*", "w*"))
            self.check(told, *pair(worth_plainly(documents, number, ("like", "*", "w*"))))


class Tops(Worths):
    def test_the_greatest_share_of_all(self):
        # The shortest field with one place, or the one with the most places.
        self.check(top_of(STAND, "a", "x"), 15, 19)
        self.check(top_of(STAND, "a", "z"), *pair(Fraction(5, 2) * 4 / (4 + Fraction(1, 2) + 5 / Fraction(9, 2))))
        self.check(top_of(STAND, "b", "x"), 1, 1)
        self.check(top_of(documents_of("x p p", "x", "x p"), "a", "x"), 4, 7)

    def test_a_pair_that_stands_nowhere(self):
        for field, word in (("a", "q"), ("b", "z"), ("c", "x")):
            self.check(top_of(STAND, field, word), 0, 1)
        self.check(top_of(House().now(), "a", "x"), 0, 1)

    def test_no_worth_is_above_the_tops_of_its_leaves(self):
        for number in DOCUMENTS:
            worth = Fraction(*worth_of(STAND, number, ("like", "*", "*")))
            tops = [Fraction(*top_of(STAND, field, word)) for field, text in TEXTS[number] for word in set(text.split())]
            self.assertLessEqual(worth, sum(tops))


class Best(unittest.TestCase):
    def check(self, stand, documents, question, many):
        handed = copy.deepcopy(question)
        told = best_of(stand, question, many)
        expected = best_plainly(documents, question, many)
        self.assertEqual(told, expected)
        self.assertIs(type(told), list)
        for entry in told:
            self.assertIs(type(entry), tuple)
        change_all(told)
        self.assertEqual(best_of(stand, question, many), expected)
        self.assertEqual(question, handed)

    def test_fewer_as_many_and_more(self):
        question = ("word", "a", "x")
        for many in (1, 2, 3, 4, 20, 21):
            self.check(STAND, DOCUMENTS, question, many)
        self.assertEqual([entry[0] for entry in best_of(STAND, question, 1)], [0])
        self.assertEqual([entry[0] for entry in best_of(STAND, question, 2)], [0, 1])
        self.assertEqual([entry[0] for entry in best_of(STAND, question, 3)], [0, 1, 3])
        self.assertEqual([entry[0] for entry in best_of(STAND, question, 20)], [0, 1, 3])

    def test_no_answers(self):
        for stand in (STAND, House().now()):
            self.assertEqual(best_of(stand, ("word", "a", "q"), 5), [])
            self.assertEqual(best_of(stand, ("one", []), 1), [])

    def test_like_worths_by_their_numbers(self):
        stand = documents_of("x", "x", "x y", "x", "y x", "x", None)
        worth = worth_of(stand, 0, ("word", "a", "x"))
        less = worth_of(stand, 2, ("word", "a", "x"))
        self.assertEqual(best_of(stand, ("word", "a", "x"), 20),
                         [(0, worth), (1, worth), (3, worth), (5, worth), (2, less), (4, less)])
        self.assertEqual(best_of(stand, ("both", []), 20), [(number, (0, 1)) for number in range(7)])
        self.assertEqual(best_of(stand, ("not", ("word", "a", "x")), 20), [(6, (0, 1))])

    def test_only_answers_are_told(self):
        # The document of the greatest worth is no answer.
        stand = documents_of("x x x x", "x y", "y")
        question = ("both", [("word", "a", "x"), ("not", ("row", "a", ["x", "x"]))])
        self.assertEqual([entry[0] for entry in best_of(stand, question, 5)], [1])

    def test_order_of_fractions(self):
        # Tops and bottoms by themselves are in another order than the worths.
        texts = ["x " * times + "p " * other for times in range(1, 6) for other in range(5)]
        stand, documents = documents_of(*texts), {at: [("a", text)] for at, text in enumerate(texts)}
        for many in (1, 7, 20, 25):
            self.check(stand, documents, ("word", "a", "x"), many)

    def test_histories_by_chance(self):
        chance = random.Random(29)
        for time in range(40):
            house, plain = some_history(chance, 35)
            for stand, documents in stands_of(house, plain):
                for at in range(2):
                    self.check(stand, documents, some_question(chance, 3), chance.randint(1, 6))


if __name__ == "__main__":
    unittest.main()
