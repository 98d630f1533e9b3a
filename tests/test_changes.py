"""Points 2 and 38: what came and went between two stands."""

import copy
import random
import unittest

from asked import answers_plainly, documents_of, some_history, some_question, stands_of
from findcourt.changes import changed
from findcourt.house import House
from helpers import change_all, stand_told

X = ("word", "a", "x")


class Changed(unittest.TestCase):
    def check(self, older, newer, question, came, went):
        handed = copy.deepcopy(question)
        for one, other, expected in ((older, newer, (came, went)), (newer, older, (went, came)),
                                     (older, older, ([], [])), (newer, newer, ([], []))):
            for time in range(2):
                told = changed(one, other, question)
                self.assertEqual(told, expected)
                self.assertIs(type(told), tuple)
                self.assertEqual([type(part) for part in told], [list, list])
                change_all(told)
        self.assertEqual(question, handed)

    def test_came_went_stayed_changed_and_taken(self):
        house = House()
        for text in ("x", "x", "x", "y", "y", "y", "x"):
            house.put([("a", text)])
        older = house.now()
        before = stand_told(older)
        house.change(1, [("a", "y")])
        house.take(2)
        house.change(3, [("a", "x")])
        house.take(4)
        house.change(6, [("a", "x x"), ("b", "x")])
        house.put([("a", "x")])
        house.put([("a", "y")])
        self.check(older, house.now(), X, [3, 7], [1, 2])
        self.check(older, house.now(), ("not", X), [1, 8], [3, 4])
        self.check(older, house.now(), ("both", []), [7, 8], [2, 4])
        self.check(older, house.now(), ("one", []), [], [])
        self.check(older, house.now(), ("word", "*", "q"), [], [])
        self.check(older, house.now(), ("word", "b", "x"), [6], [])
        self.assertEqual(stand_told(older), before)

    def test_a_document_in_one_of_the_stands_alone(self):
        self.check(House().now(), documents_of("x", "y", "x"), X, [0, 2], [])
        self.check(documents_of("x"), documents_of("x", "x", "y"), X, [1], [])
        self.check(documents_of("x"), documents_of("y", "x"), ("not", X), [0], [])
        self.check(House().now(), House().now(), ("both", []), [], [])

    def test_changed_and_changed_back(self):
        house = House()
        house.put([("a", "x")])
        first = house.stamp()
        house.change(0, [("a", "y")])
        second = house.stamp()
        house.change(0, [("a", "x")])
        house.seal()
        house.thin()
        self.check(house.stand(first), house.stand(second), X, [], [0])
        self.check(house.stand(second), house.now(), X, [0], [])
        self.check(house.stand(first), house.now(), X, [], [])

    def test_histories_by_chance(self):
        chance = random.Random(38)
        found = 0
        for time in range(30):
            house, plain = some_history(chance, 40)
            stands = stands_of(house, plain)
            for older, before in stands:
                newer, behind = chance.choice(stands)
                question = some_question(chance, 3)
                one, other = answers_plainly(before, question), answers_plainly(behind, question)
                self.check(older, newer, question, [number for number in other if number not in one],
                           [number for number in one if number not in other])
                found += one != other
        self.assertGreater(found, 20)


if __name__ == "__main__":
    unittest.main()
