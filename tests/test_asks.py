"""Points 2 and 26: the leaves of a question in a stand."""

import copy
import random
import unittest

from asked import WORDS, leaves_plainly, some_history, some_question, stand_of, stands_of
from findcourt.asks import leaves_of
from findcourt.house import House
from helpers import change_all

STAND = stand_of([("body", "the old house"), ("title", "house")], [], [("body", "houses"), ("note", "-")],
                 [("title", "the horse 7")])


class Leaves(unittest.TestCase):
    def check(self, question, expected, stand=STAND):
        handed = copy.deepcopy(question)
        told = leaves_of(stand, question)
        self.assertEqual(told, expected)
        self.assertIs(type(told), list)
        for leaf in told:
            self.assertIs(type(leaf), tuple)
        self.assertEqual(question, handed)

    def test_word(self):
        self.check(("word", "body", "house"), [("body", "house")])
        self.check(("word", "body", "nowhere"), [("body", "nowhere")])
        self.check(("word", "lone", "house"), [("lone", "house")])
        self.check(("word", "note", "house"), [("note", "house")])

    def test_like(self):
        self.check(("like", "body", "h*"), [("body", "house"), ("body", "houses")])
        self.check(("like", "title", "ho?se"), [("title", "horse"), ("title", "house")])
        self.check(("like", "title", "house"), [("title", "house")])
        self.check(("like", "title", "houses"), [])
        self.check(("like", "title", "?"), [("title", "7")])
        for field in ("lone", "note"):
            self.check(("like", field, "*"), [])

    def test_rows_near_words_and_chains(self):
        words = ["the", "house", "nowhere", "the"]
        leaves = [("body", "house"), ("body", "nowhere"), ("body", "the")]
        for question in (("row", "body", words), ("near", "body", 1, words), ("chain", "body", 20, words)):
            self.check(question, leaves)
        self.check(("row", "body", ["x"]), [("body", "x")])
        self.check(("near", "lone", 2, ["b", "a", "b"]), [("lone", "a"), ("lone", "b")])

    def test_any_field_is_each_of_the_stand(self):
        both = [("body", "house"), ("title", "house")]
        for question in (("word", "*", "house"), ("row", "*", ["house"]), ("near", "*", 3, ["house", "house"]),
                         ("chain", "*", 3, ["house"]), ("like", "*", "house")):
            self.check(question, both)
        self.check(("word", "*", "old"), [("body", "old"), ("title", "old")])
        self.check(("word", "*", "nowhere"), [("body", "nowhere"), ("title", "nowhere")])
        self.check(("like", "*", "*h*"), [("body", "house"), ("body", "houses"), ("body", "the"),
                                          ("title", "horse"), ("title", "house"), ("title", "the")])
        self.check(("like", "*", "old"), [("body", "old")])
        self.check(("chain", "*", 3, ["b", "a"]),
                   [("body", "a"), ("body", "b"), ("title", "a"), ("title", "b")])

    def test_a_stand_without_words(self):
        for stand in (House().now(), stand_of([]), stand_of([("a", "-")])):
            for kind in ("word", "like"):
                self.check((kind, "*", "x"), [], stand)
            self.check(("near", "*", 3, ["x"]), [], stand)
            self.check(("word", "a", "x"), [("a", "x")], stand)
            self.check(("like", "a", "x"), [], stand)

    def test_put_together(self):
        house, old = ("word", "title", "house"), ("word", "body", "old")
        for kind in ("both", "one"):
            self.check((kind, []), [])
            self.check((kind, [house]), [("title", "house")])
            self.check((kind, [house, old]), [("body", "old"), ("title", "house")])
            self.check((kind, [house, old, house, ("row", "body", ["old", "the"])]),
                       [("body", "old"), ("body", "the"), ("title", "house")])
            self.check((kind, [(kind, [old, house]), ("like", "title", "*")]),
                       [("body", "old"), ("title", "7"), ("title", "horse"), ("title", "house"), ("title", "the")])

    def test_not_has_none(self):
        house, old = ("word", "title", "house"), ("word", "body", "old")
        for question in (house, ("like", "*", "*"), ("row", "*", ["house"]), ("both", [house, old]),
                         ("not", house), ("one", [])):
            self.check(("not", question), [])
            for kind in ("both", "one"):
                self.check((kind, [("not", question), old]), [("body", "old")])
                self.check((kind, [("not", question)]), [])
        self.check(("both", [("not", house), house]), [("title", "house")])
        self.check(("one", [house, ("both", [("not", old), ("one", [("not", old), house])])]), [("title", "house")])

    def test_the_order_is_that_of_pairs(self):
        question = ("both", [("word", "b", "a"), ("word", "a", "z"), ("word", "ab", "0"), ("word", "a", "9")])
        self.check(question, [("a", "9"), ("a", "z"), ("ab", "0"), ("b", "a")])

    def test_the_told_list_is_the_askers_own(self):
        for question in (("word", "body", "x"), ("like", "*", "*"), ("row", "body", ["x", "y"]), ("not", ("both", [])),
                         ("both", [("word", "body", "x"), ("word", "body", "y")])):
            told = leaves_of(STAND, question)
            kept = copy.deepcopy(told)
            handed = copy.deepcopy(question)
            change_all(told)
            self.assertEqual(leaves_of(STAND, question), kept)
            self.assertEqual(question, handed)

    def test_by_chance(self):
        chance = random.Random(26)
        for time in range(25):
            house, plain = some_history(chance, 25)
            for stand, documents in stands_of(house, plain):
                for at in range(6):
                    question = some_question(chance, 4)
                    self.check(question, leaves_plainly(documents, question), stand)

    def test_fields_and_words_of_a_stand_alone(self):
        # A document that was taken or changed has no leaves in the stand behind it.
        house = House()
        house.put([("a", WORDS[0]), ("b", WORDS[1])])
        house.put([("c", WORDS[2])])
        stamp = house.stamp()
        house.take(0)
        house.change(1, [("c", WORDS[3])])
        self.check(("like", "*", "*"), [("a", WORDS[0]), ("b", WORDS[1]), ("c", WORDS[2])], house.stand(stamp))
        self.check(("like", "*", "*"), [("c", WORDS[3])], house.now())


if __name__ == "__main__":
    unittest.main()
