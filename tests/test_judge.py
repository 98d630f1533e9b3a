"""Points 2, 3 and 35 to 37: which papers the judge lets by."""

import copy
import random
import unittest
from unittest import mock

from asked import (documents_of, fields_plainly, holds_plainly, some_history, some_leaf_question, some_question,
                   stand_of, stands_of, word_document)
from findcourt.errors import NoDocument
from findcourt.house import House
from findcourt.judge import judge_best, judge_paper
from findcourt.papers import best_paper, paper_for
from findcourt.stands import Stand
from findcourt.worths import worth_of
from helpers import FAR
from shown import (OTHERS, alterations, is_best_right_plainly, is_right_plainly, some_no_papers, yes_leaf_papers)

DOCUMENT = [("body", "the old house the old garden"), ("note", "sea sea"), ("title", "old house")]
STAND = stand_of(DOCUMENT, [], [("body", "-")])


def never(*handed):
    raise AssertionError("not to be asked for")


class Judged(unittest.TestCase):
    def judged(self, question, told, paper, number=0, stand=STAND):
        handed = copy.deepcopy((question, paper))
        answer = judge_paper(stand, number, question, told, paper)
        self.assertEqual((question, paper), handed)
        self.assertIn(answer, (True, False))
        self.assertIs(type(answer), bool)
        return answer

    def right(self, question, told, *papers, number=0):
        for paper in papers:
            self.assertTrue(self.judged(question, told, paper, number), paper)
            self.assertFalse(self.judged(question, not told, paper, number), paper)

    def wrong(self, question, *papers, number=0):
        for paper in papers:
            for told in (True, False):
                self.assertFalse(self.judged(question, told, paper, number), paper)


class YesPapers(Judged):
    def test_word(self):
        question = ("word", "body", "old")
        self.right(question, True, ("at", "body", 1), ("at", "body", 4))
        self.wrong(question, ("at", "body", 0), ("at", "body", 5), ("at", "body", 6), ("at", "body", -2),
                   ("at", "body", -5), ("at", "body", FAR), ("at", "body", -FAR), ("at", "title", 0), ("at", "*", 1),
                   ("at", "lone", 1), ("at", "", 1), ("from", "body", 1), ("fits", "body", "old", 1),
                   ("places", "body", [1]), ("lacks",), ("all", []), ("this", 0, ("at", "body", 1)),
                   ("no", ("lacks",)), ("yes", ("at", "body", 1)), ("none", []), ("at", "body"), ("at", "body", 1, 1))

    def test_word_in_any_field(self):
        question = ("word", "*", "old")
        self.right(question, True, ("at", "body", 1), ("at", "body", 4), ("at", "title", 0))
        self.wrong(question, ("at", "title", 1), ("at", "note", 0), ("at", "*", 1), ("at", "lone", 0), ("lacks",))

    def test_like(self):
        question = ("like", "body", "*o*")
        self.right(question, True, ("fits", "body", "old", 1), ("fits", "body", "old", 4), ("fits", "body", "house", 2))
        self.wrong(question, ("fits", "body", "old", 2), ("fits", "body", "the", 0), ("fits", "body", "house", 1),
                   ("fits", "title", "old", 0), ("fits", "body", "OLD", 1), ("fits", "body", "", 1),
                   ("fits", "body", "o", 1), ("fits", "body", "*o*", 1), ("fits", "*", "old", 1),
                   ("fits", "body", "old", -2), ("at", "body", 1), ("lacks",))
        self.right(("like", "*", "s?a"), True, ("fits", "note", "sea", 0), ("fits", "note", "sea", 1))
        self.wrong(("like", "*", "s?a"), ("fits", "note", "sea", 2), ("fits", "body", "sea", 0))

    def test_row(self):
        question = ("row", "body", ["the", "old"])
        self.right(question, True, ("from", "body", 0), ("from", "body", 3))
        self.wrong(question, ("from", "body", 1), ("from", "body", 5), ("from", "body", -3), ("from", "body", 6),
                   ("from", "body", FAR), ("from", "title", 0), ("from", "*", 0), ("at", "body", 0),
                   ("places", "body", [0, 1]), ("broken", [("body", [])]), ("broken", [("body", [(0, 1), (3, 1)])]))
        self.right(("row", "*", ["old", "house"]), True, ("from", "body", 1), ("from", "title", 0))
        # What stands at the end of one field does not go on in the next.
        self.wrong(("row", "*", ["garden", "sea"]), ("from", "body", 5), ("from", "note", -1))

    def test_near(self):
        question = ("near", "body", 3, ["old", "the"])
        self.right(question, True, ("places", "body", [1, 0]), ("places", "body", [1, 3]), ("places", "body", [4, 3]))
        self.wrong(question, ("places", "body", [0, 1]), ("places", "body", [4, 0]), ("places", "body", [1]),
                   ("places", "body", []), ("places", "body", [1, 0, 3]), ("places", "body", [1, 1]),
                   ("places", "body", [1, -6]), ("places", "body", [FAR, 0]), ("places", "title", [0, 1]),
                   ("places", "*", [1, 0]), ("from", "body", 0), ("thin", [("body", [])]))

    def test_near_takes_each_place_once(self):
        question = ("near", "*", 4, ["old", "old"])
        self.right(question, True, ("places", "body", [1, 4]), ("places", "body", [4, 1]))
        self.wrong(question, ("places", "body", [1, 1]), ("places", "body", [4, 4]), ("places", "title", [0, 0]))
        self.wrong(("near", "*", 3, ["old", "old"]), ("places", "body", [1, 4]))
        self.right(("near", "note", 2, ["sea", "sea"]), True, ("places", "note", [0, 1]), ("places", "note", [1, 0]))

    def test_chain(self):
        question = ("chain", "body", 5, ["old", "garden"])
        self.right(question, True, ("places", "body", [1, 5]), ("places", "body", [4, 5]))
        self.right(("chain", "body", 4, ["old", "garden"]), True, ("places", "body", [4, 5]))
        self.wrong(("chain", "body", 4, ["old", "garden"]), ("places", "body", [1, 5]), ("places", "body", [5, 4]))
        self.wrong(("chain", "body", 9, ["garden", "old"]), ("places", "body", [5, 4]), ("places", "body", [5, 1]))
        self.wrong(question, ("places", "body", [5, 5]), ("places", "body", [4]), ("places", "body", [1, 4, 5]),
                   ("places", "note", [4, 5]), ("late", [("body", [[1], [4]])]))
        self.right(("chain", "note", 2, ["sea", "sea"]), True, ("places", "note", [0, 1]))
        self.wrong(("chain", "note", 2, ["sea", "sea"]), ("places", "note", [1, 0]), ("places", "note", [0, 0]))

    def test_no_yes_paper_for_a_field_that_the_document_has_not(self):
        for number in (0, 1, 2):
            for field in ("lone", "*"):
                for question in (("word", field, "q"), ("like", field, "q"), ("row", field, ["q"]),
                                 ("near", field, 1, ["q"]), ("chain", field, 1, ["q"])):
                    for paper in OTHERS + [("at", "lone", 0), ("fits", "lone", "q", 0), ("from", "lone", 0),
                                           ("places", "lone", [0]), ("places", "*", [])]:
                        self.assertFalse(self.judged(question, True, paper, number))


class NoPapers(Judged):
    def test_lacks(self):
        for question in (("word", "body", "sea"), ("word", "*", "lake"), ("like", "note", "*o*"), ("like", "*", "q*"),
                         ("word", "lone", "old"), ("like", "lone", "*")):
            self.right(question, False, ("lacks",))
            self.wrong(question, ("broken", []), ("none", []), ("at", "body", 0), ("fits", "body", "old", 1))
        for question in (("word", "body", "old"), ("word", "*", "sea"), ("like", "note", "s*"), ("like", "*", "*n")):
            self.wrong(question, ("lacks",))
        self.right(("word", "body", "q" * 45), False, ("lacks",))
        self.wrong(("word", "body", "sea"), ("lacks", 0), ("lacks", "body"))
        for question in (("row", "body", ["q"]), ("near", "*", 2, ["q"]), ("chain", "note", 2, ["q"]), ("one", [])):
            self.wrong(question, ("lacks",))

    def test_broken(self):
        question = ("row", "body", ["the", "old", "house", "by"])
        self.right(question, False, ("broken", [("body", [(0, 3), (3, 2)])]), ("broken", [("body", [(0, 3), (3, 3)])]))
        self.wrong(question, ("broken", [("body", [(0, 2), (3, 2)])]), ("broken", [("body", [(0, 3), (3, 1)])]),
                   ("broken", [("body", [(0, 3), (3, 0)])]), ("broken", [("body", [(0, 3), (3, 4)])]),
                   ("broken", [("body", [(0, 3), (3, -1)])]), ("broken", [("body", [(0, 3), (3, FAR)])]),
                   ("broken", [("body", [(0, 3)])]), ("broken", [("body", [(3, 2)])]), ("broken", [("body", [])]),
                   ("broken", [("body", [(3, 2), (0, 3)])]), ("broken", [("body", [(0, 3), (0, 3), (3, 2)])]),
                   ("broken", [("body", [(0, 3), (3, 2), (5, 1)])]), ("broken", [("body", [(0, 3), (1, 1), (3, 2)])]),
                   ("broken", []), ("broken", [("title", [])]), ("broken", [("*", [(0, 3), (3, 2)])]),
                   ("broken", [("body", [(0, 3), (3, 2)]), ("body", [(0, 3), (3, 2)])]),
                   ("broken", [("body", [(0, 3), (3, 2)]), ("title", [])]), ("thin", [("body", [])]),
                   ("late", [("body", [])]))

    def test_broken_where_the_row_stands(self):
        self.wrong(("row", "body", ["the", "old", "house"]), ("broken", [("body", [(3, 2)])]),
                   ("broken", [("body", [(0, 3), (3, 2)])]), ("broken", [("body", [])]))
        self.wrong(("row", "body", ["the"]), ("broken", [("body", [])]), ("broken", [("body", [(0, 0), (3, 0)])]),
                   ("broken", [("body", [(0, 1), (3, 1)])]))

    def test_thin(self):
        question = ("near", "body", 3, ["house", "garden", "old"])
        # From 1 on stand old, house, the; from 2 on house, the, old; from 4 on old, garden; from 5 on garden.
        self.right(question, False, ("thin", [("body", [(1, "garden"), (2, "garden"), (4, "house"), (5, "house")])]),
                   ("thin", [("body", [(1, "garden"), (2, "garden"), (4, "house"), (5, "old")])]))
        self.wrong(question, ("thin", [("body", [(1, "house"), (2, "garden"), (4, "house"), (5, "house")])]),
                   ("thin", [("body", [(1, "garden"), (2, "garden"), (4, "house"), (5, "the")])]),
                   ("thin", [("body", [(1, "garden"), (2, "garden"), (4, "house"), (5, "lake")])]),
                   ("thin", [("body", [(1, "garden"), (2, "garden"), (4, "house"), (5, "")])]),
                   ("thin", [("body", [(1, "garden"), (2, "garden"), (4, "house")])]),
                   ("thin", [("body", [(0, "garden"), (1, "garden"), (2, "garden"), (4, "house"), (5, "old")])]),
                   ("thin", [("body", [(2, "garden"), (1, "garden"), (4, "house"), (5, "house")])]),
                   ("thin", [("body", [])]), ("thin", []), ("thin", [("title", [])]), ("broken", [("body", [])]))

    def test_thin_by_the_width_alone(self):
        question = ("near", "body", 4, ["house", "garden", "old"])
        self.right(question, True, ("places", "body", [2, 5, 4]))
        self.wrong(question, ("thin", [("body", [(1, "garden"), (2, "garden"), (4, "house"), (5, "house")])]),
                   ("thin", [("body", [(1, "garden"), (4, "house"), (5, "house")])]))

    def test_thin_with_a_word_more_than_once(self):
        self.right(("near", "note", 20, ["sea", "sea", "sea"]), False, ("thin", [("note", [(0, "sea"), (1, "sea")])]))
        self.right(("near", "note", 1, ["sea", "sea"]), False, ("thin", [("note", [(0, "sea"), (1, "sea")])]))
        self.wrong(("near", "note", 2, ["sea", "sea"]), ("thin", [("note", [(0, "sea"), (1, "sea")])]),
                   ("thin", [("note", [(1, "sea")])]))

    def test_late(self):
        question = ("chain", "body", 4, ["the", "old", "garden"])
        self.right(question, True, ("places", "body", [3, 4, 5]))
        self.wrong(question, ("late", [("body", [[0, 1], [3, 4]])]), ("late", [("body", [[0, 1]])]))
        question = ("chain", "body", 3, ["the", "house", "old"])
        self.right(question, False, ("late", [("body", [[0, 2], [3]])]))
        self.wrong(question, ("late", [("body", [[0], [3]])]), ("late", [("body", [[0, 2, 4], [3]])]),
                   ("late", [("body", [[0, 1], [3]])]), ("late", [("body", [[0, 2]])]), ("late", [("body", [[3]])]),
                   ("late", [("body", [[3], [0, 2]])]), ("late", [("body", [[], [3]])]), ("late", [("body", [])]),
                   ("late", [("body", [[0, 2], [3], []])]), ("late", []), ("late", [("lone", [])]),
                   ("late", [("body", [[0, 2], [3, FAR]])]), ("late", [("body", [[0, 2], [-3]])]),
                   ("late", [("body", [[0, 2], [3]]), ("title", [])]), ("broken", [("body", [(0, 1), (3, 1)])]))

    def test_late_takes_the_first_place_behind(self):
        stand = documents_of("x y y p z")
        question = ("chain", "a", 4, ["x", "y", "z"])
        self.assertTrue(judge_paper(stand, 0, question, False, ("late", [("a", [[0, 1]])])))
        self.assertFalse(judge_paper(stand, 0, question, False, ("late", [("a", [[0, 2]])])))
        self.assertFalse(judge_paper(stand, 0, question, False, ("late", [("a", [[0]])])))

    def test_late_where_a_chain_is_whole(self):
        stand = documents_of("x y x")
        question = ("chain", "a", 2, ["x", "y"])
        for paper in (("late", [("a", [[0, 1], [2]])]), ("late", [("a", [[0], [2]])]), ("late", [("a", [[2]])])):
            self.assertFalse(judge_paper(stand, 0, question, False, paper))
        self.assertFalse(judge_paper(stand, 0, ("chain", "a", 1, ["y"]), False, ("late", [("a", [[1]])])))

    def test_any_field_has_a_row_for_each(self):
        for first, question in (("broken", ("row", "*", ["q", "r"])), ("thin", ("near", "*", 3, ["q", "r"])),
                                ("late", ("chain", "*", 3, ["q", "r"]))):
            rows = [("body", []), ("note", []), ("title", [])]
            self.right(question, False, (first, rows))
            self.wrong(question, (first, rows[:2]), (first, rows[1:]), (first, rows[::-1]), (first, []),
                       (first, rows + [("lone", [])]), (first, [("*", [])]), (first, rows + rows[:1]),
                       (first, [rows[0], rows[0], rows[2]]), (first, [("body", [(0, 0)])] + rows[1:]))
            for number in (1, 2):
                self.right(question, False, (first, []), number=number)
                self.wrong(question, (first, [("body", [])]), (first, [("*", [])]), number=number)

    def test_a_field_that_the_document_has_not(self):
        for first, question in (("broken", ("row", "lone", ["old"])), ("thin", ("near", "lone", 3, ["old"])),
                                ("late", ("chain", "lone", 3, ["old"]))):
            for number in (0, 1, 2):
                self.right(question, False, (first, [("lone", [])]), number=number)
                self.wrong(question, (first, []), (first, [("body", [])]), (first, [("lone", [(1, 0)])]),
                           (first, [("lone", []), ("lone", [])]), number=number)


class PutTogether(Judged):
    YES, NO = ("word", "note", "sea"), ("row", "note", ["sea", "lake"])
    FIRST, SECOND = ("at", "note", 0), ("at", "note", 1)
    NO_PAPER = ("broken", [("note", [(0, 1), (1, 1)])])

    def test_both(self):
        question = ("both", [self.YES, self.YES])
        self.right(question, True, ("all", [self.FIRST, self.FIRST]), ("all", [self.SECOND, self.FIRST]))
        self.wrong(question, ("all", [self.FIRST]), ("all", [self.FIRST] * 3), ("all", []), ("fails", 0, self.NO_PAPER),
                   ("all", [self.FIRST, ("at", "note", 2)]), ("all", [self.FIRST, self.NO_PAPER]),
                   ("none", [self.FIRST, self.FIRST]), ("this", 0, self.FIRST))
        question = ("both", [self.NO, self.YES, self.NO])
        self.right(question, False, ("fails", 0, self.NO_PAPER), ("fails", 2, self.NO_PAPER))
        self.wrong(question, ("fails", 1, self.NO_PAPER), ("fails", 1, self.FIRST), ("fails", -1, self.NO_PAPER),
                   ("fails", 3, self.NO_PAPER), ("fails", FAR, self.NO_PAPER), ("fails", 0, ("lacks",)),
                   ("fails", -FAR, self.NO_PAPER), ("none", [self.NO_PAPER] * 3), ("this", 0, self.NO_PAPER),
                   ("all", [self.NO_PAPER, self.FIRST, self.NO_PAPER]))

    def test_one(self):
        question = ("one", [self.NO, self.YES, self.YES])
        self.right(question, True, ("this", 1, self.FIRST), ("this", 1, self.SECOND), ("this", 2, self.FIRST))
        self.wrong(question, ("this", 0, self.FIRST), ("this", 0, self.NO_PAPER), ("this", 3, self.FIRST),
                   ("this", -1, self.FIRST), ("this", -2, self.FIRST), ("this", FAR, self.FIRST),
                   ("this", 1, ("at", "note", 2)), ("none", [self.NO_PAPER]), ("all", [self.FIRST]),
                   ("fails", 0, self.NO_PAPER))
        question = ("one", [self.NO, self.NO])
        self.right(question, False, ("none", [self.NO_PAPER, self.NO_PAPER]))
        self.wrong(question, ("none", [self.NO_PAPER]), ("none", [self.NO_PAPER] * 3), ("none", []),
                   ("none", [self.NO_PAPER, ("lacks",)]), ("this", 0, self.NO_PAPER), ("fails", 0, self.NO_PAPER),
                   ("all", [self.NO_PAPER, self.NO_PAPER]))

    def test_of_none(self):
        for number in (0, 1):
            self.right(("both", []), True, ("all", []), number=number)
            self.wrong(("both", []), ("all", [self.FIRST]), ("fails", 0, self.NO_PAPER), ("none", []), number=number)
            self.right(("one", []), False, ("none", []), number=number)
            self.wrong(("one", []), ("none", [self.NO_PAPER]), ("this", 0, self.FIRST), ("all", []), number=number)

    def test_not(self):
        self.right(("not", self.NO), True, ("no", self.NO_PAPER))
        self.right(("not", self.YES), False, ("yes", self.FIRST), ("yes", self.SECOND))
        self.right(("not", ("not", self.YES)), True, ("no", ("yes", self.FIRST)))
        self.right(("not", ("not", self.NO)), False, ("yes", ("no", self.NO_PAPER)))
        self.wrong(("not", self.NO), ("yes", self.NO_PAPER), ("no", self.FIRST), ("no", ("lacks",)), self.NO_PAPER)
        self.wrong(("not", self.YES), ("no", ("lacks",)), ("no", self.FIRST), ("yes", ("at", "note", 5)), self.FIRST)
        self.wrong(("not", ("not", self.YES)), self.FIRST, ("yes", ("no", self.FIRST)), ("no", self.FIRST))


class Whatever(Judged):
    def test_refused_of_a_document_that_is_none_of_the_stands(self):
        house = House()
        house.put(DOCUMENT)
        house.put([])
        house.take(1)
        for number in (1, 2, -1, FAR, -FAR):
            for told in (True, False):
                for question, paper in ((("word", "body", "old"), ("at", "body", 1)), (("both", []), ("all", [])),
                                        (("one", []), ("none", [])), (("word", "a", "q"), ("lacks",)),
                                        (("both", []), ("lacks",)), (("not", ("both", [])), ("yes", ("all", [])))):
                    with self.assertRaises(NoDocument) as caught:
                        judge_paper(house.now(), number, question, told, paper)
                    self.assertIs(type(caught.exception), NoDocument)

    def test_each_right_paper_of_a_leaf(self):
        chance = random.Random(35)
        seen = {True: 0, False: 0}
        for time in range(400):
            document = word_document(chance)
            stand, fields, question = stand_of(document), fields_plainly(document), some_leaf_question(chance)
            papers = yes_leaf_papers(fields, question)
            told = holds_plainly(fields, question)
            self.assertEqual(bool(papers), told)
            for paper in papers if told else some_no_papers(chance, fields, question, 5):
                self.assertTrue(self.judged(question, told, paper, 0, stand))
                self.assertFalse(self.judged(question, not told, paper, 0, stand))
                seen[told] += 1
        self.assertGreater(min(seen.values()), 200)

    def test_every_told_paper_altered_in_one_thing(self):
        chance = random.Random(350)
        seen = {True: 0, False: 0}
        for time in range(250):
            document = word_document(chance)
            stand, fields, question = stand_of(document), fields_plainly(document), some_question(chance, 3)
            told, paper = paper_for(stand, 0, question)
            self.assertTrue(self.judged(question, told, paper, 0, stand))
            self.assertFalse(self.judged(question, not told, paper, 0, stand))
            for other in [paper, *alterations(paper), *OTHERS]:
                for as_yes in (True, False):
                    expected = is_right_plainly(fields, question, as_yes, other)
                    self.assertIs(self.judged(question, as_yes, other, 0, stand), expected, (question, as_yes, other))
                    seen[expected] += other != paper
        self.assertGreater(seen[True], 50)
        self.assertGreater(seen[False], 1000)

    def test_histories_by_chance(self):
        chance = random.Random(351)
        for time in range(25):
            house, plain = some_history(chance, 35)
            for stand, documents in stands_of(house, plain):
                question = some_question(chance, 4)
                for number in documents:
                    told, paper = paper_for(stand, number, question)
                    self.assertTrue(judge_paper(stand, number, question, told, paper))
                    self.assertFalse(judge_paper(stand, number, question, not told, paper))

    def test_long_papers(self):
        stand = documents_of("x " * 900)
        question = ("chain", "a", 2, ["x", "y"])
        paper = ("late", [("a", [[place] for place in range(900)])])
        self.assertEqual(paper_for(stand, 0, question), (False, paper))
        self.assertTrue(judge_paper(stand, 0, question, False, paper))
        self.assertFalse(judge_paper(stand, 0, question, False, ("late", [("a", paper[1][0][1][:-1])])))
        far_too_many = ("thin", [("a", [(place, "x") for place in range(4900)])])
        self.assertFalse(judge_paper(stand, 0, ("near", "a", 2, ["x", "y"]), False, far_too_many))
        self.assertFalse(judge_paper(stand, 0, ("both", []), True, ("all", [("lacks",)] * 4900)))

    def test_no_postings_are_looked_at(self):
        house, plain = some_history(random.Random(8), 60)
        stand = house.now()
        questions = [some_question(random.Random(seed), 3) for seed in range(30)]
        papers = [(number, question, *paper_for(stand, number, question))
                  for number in stand.documents() for question in questions]
        best = [(question, many, best_paper(stand, question, many)) for question in questions for many in (1, 3, 20)]
        with mock.patch.multiple(Stand, postings=never, stretches=never, words=never, fields=never, length=never):
            for number, question, told, paper in papers:
                self.assertTrue(judge_paper(stand, number, question, told, paper))
            for question, many, paper in best:
                self.assertTrue(judge_best(stand, question, many, paper))


class Best(unittest.TestCase):
    """Asked for the word x or y; y is rare, so documents with x alone are worth less."""

    TEXTS = ["x", "x y", "", "y p", "x p", "y", "x p p", "x"]
    QUESTION = ("one", [("word", "a", "x"), ("word", "a", "y")])
    DOCUMENTS = {number: [("a", text)] for number, text in enumerate(TEXTS)}

    def setUp(self):
        self.stand = documents_of(*self.TEXTS)
        self.paper = best_paper(self.stand, self.QUESTION, 2)

    def worth(self, number):
        return worth_of(self.stand, number, self.QUESTION)

    def judged(self, paper, many=2, question=QUESTION):
        handed = copy.deepcopy((question, paper))
        answer = judge_best(self.stand, question, many, paper)
        self.assertIs(type(answer), bool)
        self.assertEqual((question, paper), handed)
        self.assertIs(answer, is_best_right_plainly(self.DOCUMENTS, question, many, paper))
        return answer

    def test_the_paper_that_is_told(self):
        told, weak, rest = self.paper
        self.assertEqual([entry[0] for entry in told], [1, 5])
        self.assertEqual(weak, [("a", "x")])
        self.assertEqual(rest, [(3, self.worth(3))])
        self.assertTrue(self.judged(self.paper))
        for many in (1, 3, 7, 20):
            self.assertFalse(self.judged(self.paper, many))
            self.assertTrue(self.judged(best_paper(self.stand, self.QUESTION, many), many))

    def test_yes_papers_may_show_it_otherwise(self):
        told, weak, rest = self.paper
        other = (1, told[0][1], ("this", 1, ("at", "a", 1)))
        self.assertNotEqual(told[0], other)
        self.assertTrue(self.judged(([other, told[1]], weak, rest)))
        for wrong in (("this", 1, ("at", "a", 0)), ("this", 0, ("at", "a", 1)), ("none", [("lacks",), ("lacks",)])):
            self.assertFalse(self.judged(([(1, told[0][1], wrong), told[1]], weak, rest)))

    def test_told_ones_that_are_wrong(self):
        told, weak, rest = self.paper
        shown = ("this", 1, ("at", "a", 0))
        third = (3, self.worth(3), shown)
        for wrong in (told[:1], told[1:], [told[1], told[0]], [told[0], told[0]], [told[0], third], told + [third],
                      told + [told[1]], [], [told[0], told[1], told[0]], [third, told[1]],
                      [(8, told[0][1], told[0][2]), told[1]], [(-1, told[0][1], told[0][2]), told[1]],
                      [told[0], (FAR, told[1][1], told[1][2])]):
            self.assertFalse(self.judged((wrong, weak, rest)), wrong)
        # Exchanged for the next, with the rest as it would have to be.
        self.assertFalse(self.judged(([told[0], third], weak, [(5, self.worth(5))])))
        self.assertFalse(self.judged(([told[1], third], weak, [(1, self.worth(1))])))

    def test_worths_of_told_ones_that_are_wrong(self):
        told, weak, rest = self.paper
        top, bottom = told[1][1]
        for worth in ((top + 1, bottom), (top, bottom + 1), (2 * top, 2 * bottom), (0, 1), (-top, bottom), (FAR, 1),
                      (1, FAR), told[0][1]):
            self.assertFalse(self.judged(([told[0], (5, worth, told[1][2])], weak, rest)), worth)

    def test_weak_leaves(self):
        told, weak, rest = self.paper
        all_others = [(number, self.worth(number)) for number in (0, 2, 3, 4, 6, 7)]
        self.assertTrue(self.judged((told, [], all_others)))
        self.assertFalse(self.judged((told, [], rest)))
        self.assertFalse(self.judged((told, weak, all_others)))
        # The top of y alone is above the last told one's worth.
        without_y = [(number, self.worth(number)) for number in (0, 4, 6, 7)]
        for leaves, left in (([("a", "y")], without_y), ([("a", "x"), ("a", "y")], []), ([("a", "y"), ("a", "x")], []),
                             ([("a", "x"), ("a", "x")], rest), ([("a", "p")], all_others), ([("b", "x")], all_others),
                             ([("a", "p"), ("a", "x")], rest), ([("*", "x")], all_others),
                             ([("", "")], all_others)):
            self.assertFalse(self.judged((told, leaves, left)), leaves)

    def test_a_top_that_just_reaches_the_last_worth(self):
        question = ("word", "a", "x")
        documents = {number: [("a", text)] for number, text in enumerate(["x", "x", "y"])}
        stand = documents_of("x", "x", "y")
        entries = [(number, worth_of(stand, number, question)) for number in range(3)]
        shown = [(*entries[0], ("at", "a", 0)), (*entries[1], ("at", "a", 0))]
        for many, paper, expected in ((1, (shown[:1], [("a", "x")], []), False),
                                      (1, (shown[:1], [], entries[1:]), True),
                                      (1, (shown[1:], [], [entries[0], entries[2]]), False),
                                      (2, (shown, [("a", "x")], []), False), (2, (shown, [], entries[2:]), True)):
            self.assertIs(judge_best(stand, question, many, paper), expected)
            self.assertIs(is_best_right_plainly(documents, question, many, paper), expected)

    def test_the_rest(self):
        told, weak, rest = self.paper
        top, bottom = self.worth(3)
        for wrong in ([], rest + rest, [(1, self.worth(1))] + rest, rest + [(5, self.worth(5))],
                      rest + [(4, self.worth(4))], [(2, self.worth(2))] + rest, rest + [(8, (0, 1))],
                      [(-1, (0, 1))] + rest, [(3, (top + 1, bottom))], [(3, (0, 1))], [(3, (2 * top, 2 * bottom))],
                      [(3, ("none", [("lacks",), ("lacks",)]))], [(4, self.worth(4))], [(3, ("lacks",))]):
            self.assertFalse(self.judged((told, weak, wrong)), wrong)

    def test_the_rest_rises(self):
        told, weak, rest = self.paper
        others = [(number, self.worth(number)) for number in (0, 2, 3, 4, 6, 7)]
        self.assertTrue(self.judged((told, [], others)))
        for wrong in (others[::-1], others[1:], others[:-1], others[:2] + others[1:], others[:2] + others[3:],
                      [others[1], others[0]] + others[2:]):
            self.assertFalse(self.judged((told, [], wrong)))

    def test_a_no_answer_in_the_rest_by_its_worth_and_by_a_no_paper(self):
        told, weak, rest = self.paper
        others = [(number, self.worth(number)) for number in (0, 2, 3, 4, 6, 7)]
        no_paper = ("none", [("lacks",), ("lacks",)])
        for shown, expected in (((0, 1), True), (no_paper, True), ((1, 1), False), (("none", [("lacks",)]), False),
                                (("lacks",), False), (("this", 0, ("at", "a", 0)), False)):
            self.assertIs(self.judged((told, [], [others[0], (2, shown)] + others[2:])), expected)

    def test_a_no_answer_of_great_worth(self):
        # Number 5 has y alone, and much of it; it is no answer, and its worth bars nothing.
        question = ("both", [("one", [("word", "a", "x"), ("word", "a", "y")]), ("not", ("row", "a", ["y"]))])
        paper = best_paper(self.stand, question, 2)
        self.assertEqual([entry[0] for entry in paper[0]], [0, 7])
        self.assertTrue(self.judged(paper, 2, question))
        for number in (1, 3, 5):
            at = [entry[0] for entry in paper[2]].index(number)
            self.assertEqual(paper[2][at][1][0], "fails")
            by_worth = (number, worth_of(self.stand, number, question))
            self.assertFalse(self.judged((paper[0], paper[1], paper[2][:at] + [by_worth] + paper[2][at + 1:]),
                                         2, question))

    def test_fewer_than_asked_for(self):
        told, weak, rest = best_paper(self.stand, self.QUESTION, 20)
        self.assertEqual([entry[0] for entry in told], [1, 5, 3, 0, 7, 4, 6])
        self.assertEqual((weak, rest), ([], [(2, ("none", [("lacks",), ("lacks",)]))]))
        for many, expected in ((6, False), (7, True), (8, True), (20, True)):
            self.assertIs(self.judged((told, weak, rest), many), expected)
        self.assertFalse(self.judged((told, weak, [(2, (0, 1))]), 20))
        self.assertTrue(self.judged((told, weak, [(2, (0, 1))]), 7))
        for leaves in ([("a", "x")], [("a", "y")], [("a", "x"), ("a", "y")]):
            self.assertFalse(self.judged((told, leaves, []), 20))
            self.assertFalse(self.judged((told, leaves, rest), 20))
        # One told too few, and it stands in the rest.
        self.assertFalse(self.judged((told[:-1], [], rest + [(6, told[-1][1])]), 7))
        self.assertTrue(self.judged((told[:-1], [], rest + [(6, told[-1][1])]), 6))
        self.assertFalse(self.judged((told[:-1], [], rest), 7))

    def test_none_told(self):
        nowhere = ("word", "a", "q")
        paper = best_paper(self.stand, nowhere, 3)
        self.assertEqual(paper, ([], [], [(number, ("lacks",)) for number in range(8)]))
        self.assertTrue(self.judged(paper, 3, nowhere))
        self.assertFalse(self.judged(([], [("a", "q")], []), 3, nowhere))
        self.assertFalse(self.judged(([], [], []), 3, nowhere))
        self.assertFalse(self.judged(([], [], [(number, (0, 1)) for number in range(8)]), 3, nowhere))
        self.assertFalse(self.judged(([], [], [(number, ("none", [])) for number in range(8)]), 3, self.QUESTION))
        self.assertTrue(judge_best(documents_of("y"), ("word", "a", "x"), 0, ([], [], [(0, ("lacks",))])))
        empty = House().now()
        self.assertTrue(judge_best(empty, nowhere, 1, ([], [], [])))
        self.assertFalse(judge_best(empty, nowhere, 1, ([], [("a", "q")], [])))
        self.assertFalse(judge_best(empty, ("both", []), 1, ([(0, (0, 1), ("all", []))], [], [])))

    def test_worths_of_nothing(self):
        # No leaves: all worths are 0, so the least numbers are the best ones.
        every = ("both", [])
        told = [(number, (0, 1), ("all", [])) for number in range(8)]
        rest = [(number, (0, 1)) for number in range(8)]
        self.assertTrue(self.judged((told[:2], [], rest[2:]), 2, every))
        self.assertFalse(self.judged((told[1:3], [], rest[:1] + rest[3:]), 2, every))
        self.assertFalse(self.judged((told[:2], [("a", "x")], []), 2, every))

    def test_altered_in_one_thing(self):
        chance = random.Random(37)
        seen = {True: 0, False: 0}
        for time in range(40):
            texts = [" ".join(chance.choices("xyzp", k=chance.randrange(5))) for at in range(chance.randint(1, 6))]
            documents = {number: [("a", text)] for number, text in enumerate(texts)}
            stand, question, many = documents_of(*texts), some_question(chance, 2), chance.randint(1, 3)
            paper = best_paper(stand, question, many)
            self.assertTrue(judge_best(stand, question, many, paper))
            altered = list(alterations(paper))
            for other in chance.sample(altered, min(60, len(altered))):
                if all(entry[1][1] >= 1 for entry in other[0] + other[2] if isinstance(entry[1][0], int)):
                    expected = is_best_right_plainly(documents, question, many, other)
                    self.assertIs(judge_best(stand, question, many, other), expected, (question, many, other))
                    seen[expected] += other != paper
        self.assertGreater(seen[True], 1)
        self.assertGreater(seen[False], 500)


if __name__ == "__main__":
    unittest.main()
