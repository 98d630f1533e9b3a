"""Points 2 and 32 to 34: the papers that are told."""

import copy
import random
import unittest

from asked import documents_of, fields_plainly, holds_plainly, some_history, some_question, stand_of, stands_of
from findcourt.errors import NoDocument
from findcourt.house import House
from findcourt.papers import best_paper, paper_for
from findcourt.worths import best_of
from helpers import FAR, change_all
from shown import is_best_right_plainly, is_right_plainly

TEXTS = {"body": "the old house the old garden", "note": "sea", "title": "old house"}
DOCUMENT = sorted(TEXTS.items())
STAND = stand_of(DOCUMENT, [], [("body", "-")])
LEAVES = [("word", "body", "house"), ("word", "body", "sea"), ("like", "body", "g*"), ("like", "note", "g*"),
          ("row", "body", ["old", "house"]), ("row", "body", ["house", "old"]), ("near", "body", 2, ["house", "old"]),
          ("near", "body", 2, ["house", "garden"]), ("chain", "body", 3, ["old", "the"]),
          ("chain", "body", 3, ["old", "garden", "the"])]


class Papers(unittest.TestCase):
    def check(self, question, told, paper, number=0, stand=STAND):
        handed = copy.deepcopy(question)
        for time in range(2):
            answer = paper_for(stand, number, question)
            self.assertIs(type(answer), tuple)
            self.assertIs(answer[0], told)
            self.assertEqual(answer[1], paper)
            self.assertIs(type(answer[1]), tuple)
            change_all(answer)
        self.assertEqual(question, handed)

    def check_text(self, text, question, told, paper):
        self.check(question, told, paper, 0, documents_of(text))

    def right(self, stand, documents, number, question):
        told, paper = paper_for(stand, number, question)
        fields = fields_plainly(documents[number])
        self.assertIs(told, holds_plainly(fields, question))
        self.assertTrue(is_right_plainly(fields, question, told, paper), (question, told, paper))
        self.assertFalse(is_right_plainly(fields, question, not told, paper))


class Leaves(Papers):
    def test_word(self):
        self.check(("word", "body", "house"), True, ("at", "body", 2))
        self.check(("word", "note", "sea"), True, ("at", "note", 0))
        self.check(("word", "*", "sea"), True, ("at", "note", 0))
        self.check(("word", "body", "sea"), False, ("lacks",))
        self.check(("word", "*", "lake"), False, ("lacks",))
        self.check(("word", "lone", "sea"), False, ("lacks",))

    def test_like(self):
        self.check(("like", "body", "g*"), True, ("fits", "body", "garden", 5))
        self.check(("like", "*", "s?a"), True, ("fits", "note", "sea", 0))
        self.check(("like", "note", "g*"), False, ("lacks",))
        self.check(("like", "*", "q*"), False, ("lacks",))
        self.check(("like", "lone", "*"), False, ("lacks",))

    def test_row(self):
        self.check(("row", "title", ["old", "house"]), True, ("from", "title", 0))
        self.check(("row", "body", ["old", "garden"]), True, ("from", "body", 4))
        self.check(("row", "*", ["sea"]), True, ("from", "note", 0))
        self.check(("row", "body", ["the", "old", "tree"]), False, ("broken", [("body", [(0, 2), (3, 2)])]))
        self.check(("row", "body", ["garden", "old"]), False, ("broken", [("body", [(5, 1)])]))
        self.check(("row", "body", ["sea", "old"]), False, ("broken", [("body", [])]))
        self.check(("row", "*", ["house", "house"]), False,
                   ("broken", [("body", [(2, 1)]), ("note", []), ("title", [(1, 1)])]))
        self.check(("row", "lone", ["the"]), False, ("broken", [("lone", [])]))

    def test_near(self):
        self.check(("near", "title", 2, ["house", "old"]), True, ("places", "title", [1, 0]))
        self.check(("near", "*", 1, ["sea"]), True, ("places", "note", [0]))
        self.check(("near", "note", 9, ["sea", "sea"]), False, ("thin", [("note", [(0, "sea")])]))
        self.check(("near", "body", 3, ["garden", "house"]), False,
                   ("thin", [("body", [(2, "garden"), (5, "house")])]))
        self.check(("near", "*", 20, ["sea", "garden"]), False,
                   ("thin", [("body", [(5, "sea")]), ("note", [(0, "garden")]), ("title", [])]))
        self.check(("near", "lone", 2, ["the"]), False, ("thin", [("lone", [])]))

    def test_near_with_a_word_more_than_once(self):
        self.check_text("x y x", ("near", "a", 3, ["x", "x", "y"]), True, ("places", "a", [0, 2, 1]))
        self.check_text("x y x", ("near", "a", 2, ["x", "x"]), False, ("thin", [("a", [(0, "x"), (2, "x")])]))
        self.check_text("x y x", ("near", "a", 9, ["x", "x", "x"]), False, ("thin", [("a", [(0, "x"), (2, "x")])]))
        self.check_text("y p x x", ("near", "a", 3, ["y", "x", "x"]), False,
                        ("thin", [("a", [(0, "x"), (2, "y"), (3, "y")])]))

    def test_chain(self):
        self.check(("chain", "body", 6, ["old", "garden"]), True, ("places", "body", [1, 5]))
        self.check(("chain", "body", 3, ["old", "garden"]), True, ("places", "body", [4, 5]))
        self.check(("chain", "*", 1, ["sea"]), True, ("places", "note", [0]))
        self.check(("chain", "body", 3, ["the", "garden", "old"]), False, ("late", [("body", [[0], [3, 5]])]))
        self.check(("chain", "body", 20, ["garden", "the"]), False, ("late", [("body", [[5]])]))
        self.check(("chain", "*", 2, ["old", "the"]), False,
                   ("late", [("body", [[1], [4]]), ("note", []), ("title", [[0]])]))
        self.check(("chain", "lone", 2, ["the"]), False, ("late", [("lone", [])]))

    def test_chain_with_a_word_more_than_once(self):
        self.check_text("x y x x", ("chain", "a", 4, ["x", "x", "x"]), True, ("places", "a", [0, 2, 3]))
        self.check_text("x y x x", ("chain", "a", 3, ["x", "x", "x"]), False, ("late", [("a", [[0, 2], [2, 3], [3]])]))
        self.check_text("x y x", ("chain", "a", 9, ["x", "x", "x"]), False, ("late", [("a", [[0, 2], [2]])]))
        self.check_text("x y p y z", ("chain", "a", 4, ["x", "y", "z"]), False, ("late", [("a", [[0, 1]])]))

    def test_row_with_a_word_more_than_once(self):
        self.check_text("x x y x x x", ("row", "a", ["x", "x", "x"]), True, ("from", "a", 3))
        self.check_text("x x y x x", ("row", "a", ["x", "x", "x"]), False,
                        ("broken", [("a", [(0, 2), (1, 1), (3, 2), (4, 1)])]))

    def test_a_document_without_words(self):
        for number in (1, 2):
            for kind in ("word", "like"):
                for field in ("body", "*"):
                    self.check((kind, field, "x"), False, ("lacks",), number)
            for first, kind, more in (("broken", "row", ()), ("thin", "near", (5,)), ("late", "chain", (5,))):
                self.check((kind, "*", *more, ["x", "y"]), False, (first, []), number)
                self.check((kind, "body", *more, ["x", "y"]), False, (first, [("body", [])]), number)


class PutTogether(Papers):
    YES, NO = ("word", "note", "sea"), ("row", "note", ["sea", "sea"])
    YES_PAPER, NO_PAPER = ("at", "note", 0), ("broken", [("note", [(0, 1)])])

    def test_both(self):
        self.check(("both", []), True, ("all", []))
        self.check(("both", []), True, ("all", []), 1)
        self.check(("both", [self.YES]), True, ("all", [self.YES_PAPER]))
        self.check(("both", [self.YES, self.YES]), True, ("all", [self.YES_PAPER, self.YES_PAPER]))
        self.check(("both", [self.NO]), False, ("fails", 0, self.NO_PAPER))
        self.check(("both", [self.YES, self.YES, self.NO]), False, ("fails", 2, self.NO_PAPER))

    def test_one(self):
        self.check(("one", []), False, ("none", []))
        self.check(("one", []), False, ("none", []), 1)
        self.check(("one", [self.NO]), False, ("none", [self.NO_PAPER]))
        self.check(("one", [self.NO, self.NO]), False, ("none", [self.NO_PAPER, self.NO_PAPER]))
        self.check(("one", [self.YES]), True, ("this", 0, self.YES_PAPER))
        self.check(("one", [self.NO, self.NO, self.YES]), True, ("this", 2, self.YES_PAPER))

    def test_not(self):
        self.check(("not", self.YES), False, ("yes", self.YES_PAPER))
        self.check(("not", self.NO), True, ("no", self.NO_PAPER))
        self.check(("not", ("not", self.YES)), True, ("no", ("yes", self.YES_PAPER)))
        self.check(("not", ("not", self.NO)), False, ("yes", ("no", self.NO_PAPER)))
        self.check(("not", ("both", [])), False, ("yes", ("all", [])))
        self.check(("not", ("one", [])), True, ("no", ("none", [])))
        self.check(("not", ("both", [self.YES, self.NO])), True, ("no", ("fails", 1, self.NO_PAPER)))
        self.check(("not", ("one", [self.NO, ("not", self.YES)])), True,
                   ("no", ("none", [self.NO_PAPER, ("yes", self.YES_PAPER)])))

    def test_each_leaf_within(self):
        documents = {0: DOCUMENT, 1: [], 2: [("body", "-")]}
        for leaf in LEAVES:
            for field in (leaf[1], "*", "lone"):
                question = (leaf[0], field, *leaf[2:])
                for asked in (question, ("not", question), ("both", [question, ("not", question)]),
                              ("one", [question, ("not", question)]), ("both", [question, self.YES]),
                              ("one", [self.NO, question]), ("not", ("not", question))):
                    for number in documents:
                        self.right(STAND, documents, number, asked)

    def test_histories_by_chance(self):
        chance = random.Random(34)
        for time in range(40):
            house, plain = some_history(chance, 30)
            for stand, documents in stands_of(house, plain):
                for at in range(4):
                    question = some_question(chance, 4)
                    for number in documents:
                        self.right(stand, documents, number, question)

    def test_refused_of_a_document_that_is_none_of_the_stands(self):
        house = House()
        house.put(DOCUMENT)
        house.put([])
        stamp = house.stamp()
        house.take(1)
        house.put([])
        for stand, numbers in ((house.now(), (1, 3, -1, FAR, -FAR)), (house.stand(stamp), (2, 3, -1, FAR))):
            for number in numbers:
                for question in LEAVES + [("both", []), ("one", []), ("not", ("both", [])), ("word", "lone", "x")]:
                    with self.assertRaises(NoDocument) as caught:
                        paper_for(stand, number, question)
                    self.assertIs(type(caught.exception), NoDocument)

    def test_what_is_told_is_the_askers_own(self):
        for question in LEAVES + [("both", LEAVES), ("one", LEAVES), ("not", ("one", LEAVES))]:
            told = paper_for(STAND, 0, question)
            kept, handed = copy.deepcopy(told), copy.deepcopy(question)
            change_all(told)
            self.assertEqual(paper_for(STAND, 0, question), kept)
            self.assertEqual(question, handed)


class BestPapers(unittest.TestCase):
    def check(self, stand, documents, question, many):
        handed = copy.deepcopy(question)
        paper = best_paper(stand, question, many)
        self.assertIs(type(paper), tuple)
        for part in paper:
            self.assertIs(type(part), list)
        self.assertEqual([entry[:2] for entry in paper[0]], best_of(stand, question, many))
        self.assertTrue(is_best_right_plainly(documents, question, many, paper), (question, many, paper))
        kept = copy.deepcopy(paper)
        change_all(paper)
        self.assertEqual(best_paper(stand, question, many), kept)
        self.assertEqual(question, handed)
        return kept

    def check_texts(self, texts, question, many):
        documents = {number: [("a", text)] for number, text in enumerate(texts)}
        return self.check(documents_of(*texts), documents, question, many)

    def test_without_weak_leaves(self):
        told, weak, rest = self.check_texts(["x", "x x", "x x x", "y"], ("word", "a", "x"), 2)
        self.assertEqual([entry[0] for entry in told], [2, 1])
        self.assertEqual(told[0][2], ("at", "a", 0))
        self.assertEqual(weak, [])
        self.assertEqual([entry[0] for entry in rest], [0, 3])
        self.assertEqual(rest[1], (3, ("lacks",)))

    def test_weak_leaves_leave_documents_out_of_the_rest(self):
        texts = ["x"] * 9 + ["x y", "y", ""]
        told, weak, rest = self.check_texts(texts, ("one", [("word", "a", "x"), ("word", "a", "y")]), 1)
        self.assertEqual([entry[0] for entry in told], [9])
        self.assertEqual(weak, [("a", "x")])
        self.assertEqual([entry[0] for entry in rest], [10])

    def test_the_leaves_with_the_least_tops_are_weak(self):
        texts = ["y"] * 9 + ["y x", "x", ""]
        told, weak, rest = self.check_texts(texts, ("one", [("word", "a", "x"), ("word", "a", "y")]), 1)
        self.assertEqual(weak, [("a", "y")])
        texts = ["x y z"] + ["x y"] * 4 + ["x"] * 9
        told, weak, rest = self.check_texts(texts, ("like", "a", "*"), 1)
        self.assertEqual(weak, [("a", "x"), ("a", "y")])
        self.assertEqual(rest, [])

    def test_none_asked_for(self):
        self.assertEqual(best_paper(documents_of("x"), ("word", "a", "x"), 0)[:2], ([], []))

    def test_fewer_than_asked_for(self):
        told, weak, rest = self.check_texts(["x", "y", "x y", ""], ("word", "a", "x"), 3)
        self.assertEqual((len(told), weak), (2, []))
        self.assertEqual(rest, [(1, ("lacks",)), (3, ("lacks",))])
        self.assertEqual(self.check_texts(["y"], ("word", "a", "x"), 1), ([], [], [(0, ("lacks",))]))
        self.assertEqual(best_paper(House().now(), ("both", []), 1), ([], [], []))

    def test_no_leaves(self):
        told, weak, rest = self.check_texts(["x", "y", ""], ("both", []), 2)
        self.assertEqual(told, [(0, (0, 1), ("all", [])), (1, (0, 1), ("all", []))])
        self.assertEqual((weak, rest), ([], [(2, (0, 1))]))
        told, weak, rest = self.check_texts(["x", "y", ""], ("not", ("word", "a", "x")), 1)
        self.assertEqual((told, weak), ([(1, (0, 1), ("no", ("lacks",)))], []))
        self.assertEqual(rest, [(0, ("yes", ("at", "a", 0))), (2, (0, 1))])

    def test_a_document_of_great_worth_that_is_no_answer(self):
        texts = ["x x x x x", "x y", "y"]
        question = ("both", [("word", "a", "x"), ("not", ("row", "a", ["x", "x"]))])
        told, weak, rest = self.check_texts(texts, question, 1)
        self.assertEqual([entry[0] for entry in told], [1])
        self.assertEqual(rest[0], (0, ("fails", 1, ("yes", ("from", "a", 0)))))

    def test_histories_by_chance(self):
        chance = random.Random(36)
        weak = 0
        for time in range(40):
            house, plain = some_history(chance, 45)
            for stand, documents in stands_of(house, plain):
                for at in range(3):
                    weak += bool(self.check(stand, documents, some_question(chance, 3), chance.randint(1, 4))[1])
        self.assertGreater(weak, 25)


if __name__ == "__main__":
    unittest.main()
