"""Points 1 to 3: the promise over the whole program, for histories of deeds with all kinds wherever."""

import copy
import random
import unittest

from asked import answers_plainly, fields_plainly, holds_plainly, some_question, word_document
from findcourt.answers import answers_of
from findcourt.asks import leaves_of
from findcourt.books import house_of, show_deed
from findcourt.changes import changed
from findcourt.early import early_best, stretched_best
from findcourt.house import House
from findcourt.judge import judge_best, judge_paper
from findcourt.papers import best_paper, paper_for
from findcourt.plainly import holds, plain_answers
from findcourt.worths import best_of, top_of, worth_of
from helpers import PlainHouse, change_all, do, plain_stand, some_deed, stand_told
from shown import is_best_right_plainly, is_right_plainly
from weighed import best_plainly, pair, top_plainly, worth_plainly


class TheWhole(unittest.TestCase):
    def look(self, stand, documents, question, many):
        """All that the stand tells of the question, against looking through all texts plainly."""
        answers = answers_plainly(documents, question)
        self.assertEqual(answers_of(stand, question), answers)
        self.assertEqual(plain_answers(stand, question), answers)
        best = best_plainly(documents, question, many)
        self.assertEqual(best_of(stand, question, many), best)
        self.assertEqual(early_best(stand, question, many)[0], best)
        self.assertEqual(stretched_best(stand, question, many)[0], best)
        for field, word in leaves_of(stand, question):
            self.assertEqual(top_of(stand, field, word), pair(top_plainly(documents, field, word)))
        for number in documents:
            fields = fields_plainly(documents[number])
            self.assertEqual(worth_of(stand, number, question), pair(worth_plainly(documents, number, question)))
            told, paper = paper_for(stand, number, question)
            self.assertEqual((told, holds(fields, question)), (number in answers, number in answers))
            self.assertEqual(told, holds_plainly(fields, question))
            self.assertTrue(is_right_plainly(fields, question, told, paper))
            self.assertTrue(judge_paper(stand, number, question, told, paper))
            self.assertFalse(judge_paper(stand, number, question, not told, paper))
        paper = best_paper(stand, question, many)
        self.assertTrue(is_best_right_plainly(documents, question, many, paper))
        self.assertTrue(judge_best(stand, question, many, paper))

    def stands(self, house, plain):
        yield house.now(), plain.documents_at(None)
        for stamp in sorted(plain.kept):
            yield house.stand(stamp), plain.documents_at(stamp)

    def test_histories_asked_at_every_kept_stamp(self):
        chance = random.Random(3)
        for time in range(25):
            house, plain = House(), PlainHouse()
            for at in range(40):
                deed = some_deed(chance, plain, word_document)
                self.assertEqual(do(house, deed), do(plain, deed))
                if at % 8 == 7:
                    for stand, documents in self.stands(house, plain):
                        self.assertEqual(stand_told(stand), plain_stand(documents))
                        self.look(stand, documents, some_question(chance, 3), chance.randint(1, 4))

    def test_all_ways_of_keeping_the_same_documents(self):
        texts = ["x y", "y x x", "", "z", "x", "x z y", "y y", "x x", "z x"]
        ways = [[], ["seal"], ["seal", "pack"], ["seal", "thin"], ["seal", "pack", "thin"], ["pour"], ["pack"]]
        for seed in range(12):
            chance = random.Random(seed)
            house, plain = House(), PlainHouse()
            for text in texts:
                for name in chance.choice(ways):
                    deed = {"seal": ("seal",), "thin": ("thin",), "pack": ("pack", 0), "pour": ("pour", 0, 1)}[name]
                    if plain.sealed or name in ("seal", "thin"):
                        do(house, deed)
                        do(plain, deed)
                do(house, ("put", [("a", text), ("b", text[::-1])]))
                do(plain, ("put", [("a", text), ("b", text[::-1])]))
            for question in (("word", "a", "x"), ("like", "*", "?"), ("chain", "*", 3, ["x", "y"]),
                             ("not", ("near", "b", 2, ["x", "x"])), ("both", [("word", "*", "y"), ("word", "a", "x")])):
                self.look(house.now(), plain.documents_at(None), question, 3)

    def test_papers_told_ahead_of_later_deeds(self):
        chance = random.Random(30)
        for time in range(15):
            house, plain = House(), PlainHouse()
            kept = []
            for at in range(50):
                deed = some_deed(chance, plain, word_document)
                if deed[0] == "drop":
                    continue
                do(house, deed)
                stamp = do(plain, deed)
                if deed[0] == "stamp":
                    question, stand = some_question(chance, 3), house.stand(stamp)
                    papers = {number: paper_for(stand, number, question) for number in stand.documents()}
                    kept.append((stamp, stand, question, papers, best_paper(stand, question, 2)))
            for stamp, stand, question, papers, best in kept:
                for asked in (stand, house.stand(stamp)):
                    for number, (told, paper) in papers.items():
                        self.assertTrue(judge_paper(asked, number, question, told, paper))
                        self.assertEqual(paper_for(asked, number, question), (told, paper))
                    self.assertTrue(judge_best(asked, question, 2, best))
                    self.assertEqual(best_paper(asked, question, 2), best)

    def test_no_later_deed_changes_what_a_stand_tells(self):
        chance = random.Random(31)
        for time in range(10):
            house, plain = House(), PlainHouse()
            stands = []
            for at in range(40):
                deed = some_deed(chance, plain, word_document)
                do(house, deed)
                do(plain, deed)
                if at % 5 == 0:
                    stands.append((house.now(), copy.deepcopy(plain.documents_at(None)), some_question(chance, 3)))
            for stand, documents, question in stands:
                self.look(stand, documents, question, 2)
            for older, newer in zip(stands, stands[1:]):
                one, other = (answers_plainly(stand[1], older[2]) for stand in (older, newer))
                self.assertEqual(changed(older[0], newer[0], older[2]),
                                 ([number for number in other if number not in one],
                                  [number for number in one if number not in other]))

    def test_the_house_of_a_book_tells_the_same(self):
        chance = random.Random(32)
        for time in range(10):
            plain, lines = PlainHouse(), []
            for at in range(30):
                deed = some_deed(chance, plain, word_document)
                do(plain, deed)
                lines.append(show_deed(deed))
            house, answers = house_of(lines)
            for stand, documents in self.stands(house, plain):
                self.look(stand, documents, some_question(chance, 3), 3)

    def test_changing_what_was_told_changes_no_answer(self):
        chance = random.Random(33)
        house, plain = House(), PlainHouse()
        for at in range(60):
            deed = some_deed(chance, plain, word_document)
            do(house, deed)
            do(plain, deed)
        for stand, documents in self.stands(house, plain):
            question = some_question(chance, 3)
            for ask in (lambda: answers_of(stand, question), lambda: plain_answers(stand, question),
                        lambda: leaves_of(stand, question), lambda: list(best_of(stand, question, 3)),
                        lambda: early_best(stand, question, 3), lambda: stretched_best(stand, question, 3),
                        lambda: best_paper(stand, question, 3), lambda: changed(stand, house.now(), question),
                        lambda: [paper_for(stand, number, question) for number in stand.documents()]):
                told = copy.deepcopy(ask())
                change_all(ask())
                self.assertEqual(ask(), told)
            self.look(stand, documents, question, 3)


if __name__ == "__main__":
    unittest.main()
