"""Points 2 and 18: what a stand tells."""

import copy
import itertools
import unittest

from findcourt.errors import NoDocument
from findcourt.house import House
from findcourt.pieces import Piece, stretches_of
from helpers import FAR, change_all, do, plain_stand, stand_told

# By number; of those that are None the document is taken.
DOCUMENTS = [
    [("body", "The old house, the old garden."), ("title", "House")],
    [],
    [("body", "..."), ("note", ""), ("title", "The garden 7")],
    None,
    [("body", "Old OLD old"), ("empty", " - "), ("title", "It's the garden")],
    [("title", "changed")],
]
THERE = {number: document for number, document in enumerate(DOCUMENTS) if document is not None}


def all_put(after_each=()):
    """A house with these documents; behind each deed come the deeds told."""
    house = House()

    def done(told):
        for name in after_each:
            do(house, (name,))

    for document in DOCUMENTS[:5]:
        done(house.put([("body", "soon taken"), ("lone", "soon")] if document is None else document))
    done(house.put([("body", "soon changed"), ("other", "words")]))
    done(house.take(3))
    done(house.change(5, DOCUMENTS[5]))
    return house


class Told(unittest.TestCase):
    def setUp(self):
        self.stand = all_put().now()

    def test_documents(self):
        self.assertEqual(self.stand.documents(), [0, 1, 2, 4, 5])
        self.assertEqual(House().now().documents(), [])

    def test_fields_are_those_with_words(self):
        self.assertEqual(self.stand.fields(), ["body", "title"])
        self.assertEqual(House().now().fields(), [])

    def test_words(self):
        self.assertEqual(self.stand.words("body"), ["garden", "house", "old", "the"])
        self.assertEqual(self.stand.words("title"), ["7", "changed", "garden", "house", "it", "s", "the"])
        for field in ("note", "empty", "lone", "other", "nowhere", "", "*"):
            self.assertEqual(self.stand.words(field), [])

    def test_postings(self):
        self.assertEqual(self.stand.postings("body", "old"), [(0, [1, 4]), (4, [0, 1, 2])])
        self.assertEqual(self.stand.postings("title", "garden"), [(2, [1]), (4, [3])])
        self.assertEqual(self.stand.postings("title", "changed"), [(5, [0])])
        for field, word in (("body", "soon"), ("lone", "soon"), ("body", "nowhere"), ("nowhere", "old"),
                            ("note", "old"), ("title", "old"), ("body", ""), ("body", "Old")):
            self.assertEqual(self.stand.postings(field, word), [])

    def test_postings_rise_by_number_and_not_by_make(self):
        house = House()
        for document in range(6):
            house.put([("a", "x")])
        for number in (3, 0, 4):
            house.change(number, [("a", "y x x")])
        self.assertEqual(house.now().postings("a", "x"),
                         [(0, [1, 2]), (1, [0]), (2, [0]), (3, [1, 2]), (4, [1, 2]), (5, [0])])
        self.assertEqual(house.now().postings("a", "y"), [(0, [0]), (3, [0]), (4, [0])])

    def test_stretches(self):
        self.assertEqual(self.stand.stretches("body", "old"), [(0, 4, 3)])
        self.assertEqual(self.stand.stretches("body", "nowhere"), [])
        self.assertEqual(self.stand.stretches("nowhere", "old"), [])
        house = House()
        for document in range(11):
            house.put([("a", "x " * (document % 5 + 1))])
        house.take(2)
        house.change(0, [("a", "x " * 9)])
        stand = house.now()
        self.assertEqual(stand.stretches("a", "x"), [(0, 4, 9), (5, 8, 4), (9, 10, 5)])
        self.assertEqual(stand.stretches("a", "x"), stretches_of(stand.postings("a", "x")))

    def test_length(self):
        self.assertEqual([self.stand.length(number, "body") for number in range(7)], [6, 0, 0, 0, 3, 0, 0])
        self.assertEqual([self.stand.length(number, "title") for number in range(7)], [1, 0, 3, 0, 4, 1, 0])
        for number, field in ((3, "lone"), (5, "other"), (4, "empty"), (0, "nowhere"), (-1, "body"), (FAR, "body")):
            self.assertEqual(self.stand.length(number, field), 0)

    def test_text(self):
        self.assertEqual(self.stand.text(0, "body"), "The old house, the old garden.")
        self.assertEqual(self.stand.text(4, "title"), "It's the garden")
        self.assertEqual(self.stand.text(4, "empty"), " - ")
        self.assertEqual(self.stand.text(2, "note"), "")
        self.assertEqual(self.stand.text(5, "title"), "changed")
        for number, field in ((0, "note"), (1, "body"), (5, "body"), (5, "other"), (0, "nowhere"), (0, "")):
            self.assertEqual(self.stand.text(number, field), "")

    def test_document(self):
        for number, document in THERE.items():
            self.assertEqual(self.stand.document(number), document)

    def test_words_by_field(self):
        self.assertEqual(self.stand.words_by_field(0),
                         {"body": ["the", "old", "house", "the", "old", "garden"], "title": ["house"]})
        self.assertEqual(self.stand.words_by_field(1), {})
        self.assertEqual(self.stand.words_by_field(2), {"title": ["the", "garden", "7"]})
        self.assertEqual(self.stand.words_by_field(4), {"body": ["old", "old", "old"],
                                                        "title": ["it", "s", "the", "garden"]})
        self.assertEqual(self.stand.words_by_field(5), {"title": ["changed"]})

    def test_it_is_that_of_a_piece_of_the_numbers(self):
        piece = Piece(sorted(THERE.items()))
        self.assertEqual(self.stand.fields(), piece.fields())
        for field in piece.fields() + ["note"]:
            self.assertEqual(self.stand.words(field), piece.words(field))
            for word in piece.words(field):
                self.assertEqual(self.stand.postings(field, word), piece.postings(field, word))
            for number in range(7):
                self.assertEqual(self.stand.length(number, field), piece.length(number, field))

    def test_all_is_what_plain_looking_tells(self):
        self.assertEqual(stand_told(self.stand), plain_stand(THERE))

    def test_refused_of_numbers_that_it_has_not(self):
        before = stand_told(self.stand)
        for number in (3, 6, -1, FAR, -FAR):
            for ask in (lambda: self.stand.text(number, "body"), lambda: self.stand.text(number, "nowhere"),
                        lambda: self.stand.document(number), lambda: self.stand.words_by_field(number)):
                with self.assertRaises(NoDocument) as caught:
                    ask()
                self.assertIs(type(caught.exception), NoDocument)
        self.assertEqual(stand_told(self.stand), before)

    def test_refused_of_a_number_of_another_time(self):
        house = House()
        stand = house.now()
        house.put([("a", "x")])
        with self.assertRaises(NoDocument):
            stand.document(0)
        self.assertEqual(house.now().document(0), [("a", "x")])

    def test_kinds(self):
        for told in (self.stand.documents(), self.stand.fields(), self.stand.words("body"), self.stand.document(0),
                     self.stand.postings("body", "old"), self.stand.postings("body", "old")[0][1],
                     self.stand.stretches("body", "old"), self.stand.words_by_field(0)["body"]):
            self.assertIs(type(told), list)
        for told in (self.stand.postings("body", "old")[0], self.stand.stretches("body", "old")[0],
                     self.stand.document(0)[0]):
            self.assertIs(type(told), tuple)
        self.assertIs(type(self.stand.words_by_field(0)), dict)
        self.assertIs(type(self.stand.text(0, "body")), str)
        self.assertIs(type(self.stand.length(0, "body")), int)


class Own(unittest.TestCase):
    def test_each_told_list_and_dict_changed_then_asked_again(self):
        house = all_put()
        stand = house.now()
        before = stand_told(stand)
        kept = copy.deepcopy(before)
        change_all(stand_told(stand))
        self.assertEqual(stand_told(stand), kept)
        for ask in (stand.documents, stand.fields, lambda: stand.words("body"), lambda: stand.words("nowhere"),
                    lambda: stand.postings("body", "old"), lambda: stand.postings("body", "nowhere"),
                    lambda: stand.stretches("body", "old"), lambda: stand.document(0), lambda: stand.document(1),
                    lambda: stand.words_by_field(0), lambda: stand.words_by_field(1)):
            told = copy.deepcopy(ask())
            change_all(ask())
            self.assertEqual(ask(), told)
        self.assertEqual(before, kept)
        # Nor does it change what the house tells of the same documents.
        self.assertEqual(stand_told(house.now()), kept)
        house.seal()
        self.assertEqual(stand_told(house.now()), kept)

    def test_two_stands_of_one_house(self):
        house = all_put()
        one, other = house.now(), house.now()
        change_all(stand_told(one))
        self.assertEqual(stand_told(other), plain_stand(THERE))


class TheSame(unittest.TestCase):
    """What a stand tells does not hang on how the makes are kept."""

    def test_sealed_and_thinned_behind_each_deed(self):
        for many in range(3):
            for names in itertools.product(("seal", "thin"), repeat=many):
                house = all_put(names)
                self.assertEqual(stand_told(house.now()), plain_stand(THERE), names)

    def test_poured_and_packed_wherever(self):
        for first, many in ((0, 1), (0, 2), (3, 4), (0, 8), (6, 2)):
            for thinned in (False, True):
                house = all_put(("seal",))
                self.assertEqual(len(house.pieces()), 8)
                for at in range(0, 7, 2):
                    house.pack(at)
                self.assertEqual(stand_told(house.now()), plain_stand(THERE))
                house.pour(first, min(many, 7 - first))
                self.assertEqual(stand_told(house.now()), plain_stand(THERE))
                if thinned:
                    house.thin()
                house.pack(0)
                stamp = house.stamp()
                self.assertEqual(stand_told(house.now()), plain_stand(THERE))
                self.assertEqual(stand_told(house.stand(stamp)), plain_stand(THERE))


if __name__ == "__main__":
    unittest.main()
