"""Points 2, 6, 7 and 8: makes lists, pieces and stretches."""

import copy
import random
import unittest

from findcourt.errors import NoField, NoMake
from findcourt.pieces import Piece, stretches_of
from helpers import FAR, all_told, change_all, plain_postings, plain_text, plain_words, some_makes

HOUSE = [
    (0, [("body", "The old house, the old garden."), ("title", "House")]),
    (2, []),
    (3, [("body", "..."), ("note", ""), ("title", "The garden 7")]),
    (FAR, [("body", "Old OLD old"), ("title", "Garden")]),
]


class MakesLists(unittest.TestCase):
    def refused_at(self, refusal, makes):
        before = copy.deepcopy(makes)
        with self.assertRaises(refusal) as caught:
            Piece(makes)
        self.assertEqual(makes, before)
        return caught.exception.place

    def test_right_lists_are_taken(self):
        for makes in ([], [(0, [])], [(5, [("a", "x")])], [(0, []), (1, [])],
                      [(0, []), (FAR, []), (FAR + 1, [])],
                      [(make, []) for make in range(300)]):
            before = copy.deepcopy(makes)
            self.assertEqual(Piece(makes).makes(), [make for make, document in makes])
            self.assertEqual(makes, before)

    def test_a_make_below_0(self):
        self.assertEqual(self.refused_at(NoMake, [(-1, [])]), 0)
        self.assertEqual(self.refused_at(NoMake, [(-2, []), (-1, [])]), 0)
        self.assertEqual(self.refused_at(NoMake, [(-FAR, [])]), 0)
        self.assertEqual(self.refused_at(NoMake, [(0, []), (-1, [])]), 1)

    def test_makes_that_do_not_rise(self):
        self.assertEqual(self.refused_at(NoMake, [(0, []), (0, [])]), 1)
        self.assertEqual(self.refused_at(NoMake, [(4, []), (5, []), (5, [])]), 2)
        self.assertEqual(self.refused_at(NoMake, [(4, []), (3, [])]), 1)
        self.assertEqual(self.refused_at(NoMake, [(0, []), (7, []), (3, []), (8, [])]), 2)
        self.assertEqual(self.refused_at(NoMake, [(FAR, []), (FAR, [])]), 1)
        self.assertEqual(self.refused_at(NoMake, [(FAR + 1, []), (FAR, [])]), 1)

    def test_of_several_wrong_makes_the_first(self):
        self.assertEqual(self.refused_at(NoMake, [(3, []), (3, []), (2, []), (-1, [])]), 1)

    def test_a_truth_is_no_make(self):
        self.assertEqual(self.refused_at(NoMake, [(True, [])]), 0)
        self.assertEqual(self.refused_at(NoMake, [(False, []), (1, [])]), 0)
        self.assertEqual(self.refused_at(NoMake, [(0, []), (True, [])]), 1)

    def test_a_wrong_field_with_its_place_within_the_document(self):
        self.assertEqual(self.refused_at(NoField, [(0, [("A", "x")])]), 0)
        wrong = [("a", "x"), ("b", "x"), ("b", "y")]
        self.assertEqual(self.refused_at(NoField, [(0, wrong)]), 2)
        self.assertEqual(self.refused_at(NoField, [(0, []), (1, [("a", "x")]), (2, wrong)]), 2)
        self.assertEqual(self.refused_at(NoField, [(0, [("a", ""), ("", "")]), (1, [("", "")])]), 1)

    def test_of_two_tuples_the_first_one(self):
        wrong = [("a", "x"), ("a", "y")]
        self.assertEqual(self.refused_at(NoField, [(0, []), (1, []), (2, wrong), (2, [])]), 1)
        self.assertEqual(self.refused_at(NoMake, [(0, []), (1, []), (1, []), (2, wrong)]), 2)
        self.assertEqual(self.refused_at(NoMake, [(-1, []), (2, wrong)]), 0)
        self.assertEqual(self.refused_at(NoField, [(3, wrong), (-1, [])]), 1)

    def test_of_one_tuple_the_make(self):
        wrong = [("a", "x"), ("a", "y")]
        self.assertEqual(self.refused_at(NoMake, [(-1, wrong)]), 0)
        self.assertEqual(self.refused_at(NoMake, [(0, []), (1, []), (1, wrong)]), 2)

    def test_a_refusal_changes_no_piece_made_ahead(self):
        piece = Piece(HOUSE)
        before = all_told(piece)
        self.refused_at(NoMake, HOUSE + [(5, [("body", "other")])])
        self.refused_at(NoField, HOUSE + [(FAR + 1, [("body", "other"), ("body", "old")])])
        self.assertEqual(all_told(piece), before)


class Pieces(unittest.TestCase):
    def test_makes(self):
        self.assertEqual(Piece(HOUSE).makes(), [0, 2, 3, FAR])

    def test_fields_are_those_with_words(self):
        self.assertEqual(Piece(HOUSE).fields(), ["body", "title"])
        self.assertEqual(Piece([(0, [("b", "x")]), (1, [("a", "y"), ("c", "")])]).fields(), ["a", "b"])

    def test_words(self):
        piece = Piece(HOUSE)
        self.assertEqual(piece.words("body"), ["garden", "house", "old", "the"])
        self.assertEqual(piece.words("title"), ["7", "garden", "house", "the"])

    def test_words_are_sorted_as_texts(self):
        piece = Piece([(0, [("a", "b10 B2 aa b 10 9")])])
        self.assertEqual(piece.words("a"), ["10", "9", "aa", "b", "b10", "b2"])

    def test_postings(self):
        piece = Piece(HOUSE)
        self.assertEqual(piece.postings("body", "old"), [(0, [1, 4]), (FAR, [0, 1, 2])])
        self.assertEqual(piece.postings("body", "the"), [(0, [0, 3])])
        self.assertEqual(piece.postings("body", "house"), [(0, [2])])
        self.assertEqual(piece.postings("title", "garden"), [(3, [1]), (FAR, [0])])
        self.assertEqual(piece.postings("title", "7"), [(3, [2])])

    def test_length(self):
        piece = Piece(HOUSE)
        self.assertEqual([piece.length(make, "body") for make in (0, 2, 3, FAR)], [6, 0, 0, 3])
        self.assertEqual([piece.length(make, "title") for make in (0, 2, 3, FAR)], [1, 0, 3, 1])

    def test_a_field_without_words(self):
        piece = Piece(HOUSE)
        self.assertEqual(piece.words("note"), [])
        self.assertEqual(piece.postings("note", "old"), [])
        self.assertEqual(piece.length(3, "note"), 0)

    def test_what_there_is_not(self):
        piece = Piece(HOUSE)
        for field in ("other", "", "*", "Body"):
            self.assertEqual(piece.words(field), [])
            self.assertEqual(piece.postings(field, "old"), [])
            self.assertEqual(piece.length(0, field), 0)
        for word in ("other", "", "Old", "ol", "olds", "7"):
            self.assertEqual(piece.postings("body", word), [])
        for make in (1, 4, -1, FAR - 1, FAR + 1):
            self.assertEqual(piece.length(make, "body"), 0)

    def test_asking_for_what_there_is_not_changes_nothing(self):
        piece = Piece(HOUSE)
        before = all_told(piece)
        piece.words("other")
        piece.postings("other", "old")
        piece.postings("body", "other")
        piece.length(1, "body")
        self.assertEqual(all_told(piece), before)

    def test_the_empty_piece(self):
        for makes in ([], [(4, [])], [(4, [("a", ""), ("b", " -- ")])]):
            piece = Piece(makes)
            self.assertEqual(piece.makes(), [make for make, document in makes])
            self.assertEqual(piece.fields(), [])
            self.assertEqual(piece.words("a"), [])
            self.assertEqual(piece.postings("a", "x"), [])
            self.assertEqual(piece.length(4, "a"), 0)

    def test_the_makes_list_changed_behind(self):
        makes = copy.deepcopy(HOUSE)
        piece = Piece(makes)
        self.assertEqual(makes, HOUSE)
        for make, document in makes:
            document.append(("zoo", "other old words"))
            document[0] = ("body", "changed")
        makes.append((FAR + 1, [("body", "old")]))
        makes[0] = (1, [])
        self.assertEqual(all_told(piece), all_told(Piece(HOUSE)))
        self.assertEqual(piece.makes(), [0, 2, 3, FAR])
        self.assertEqual(piece.postings("body", "old"), [(0, [1, 4]), (FAR, [0, 1, 2])])

    def test_the_told_lists_are_the_askers_own(self):
        piece = Piece(HOUSE)
        before = all_told(Piece(HOUSE))
        kept = all_told(piece)
        change_all(all_told(piece))
        self.assertEqual(all_told(piece), before)
        self.assertEqual(kept, before)

    def test_each_told_list_changed_then_asked_again(self):
        piece = Piece(HOUSE)
        for ask in (piece.makes, piece.fields, lambda: piece.words("body"), lambda: piece.words("other"),
                    lambda: piece.postings("body", "old"), lambda: piece.postings("body", "other"),
                    lambda: piece.postings("other", "old")):
            before = copy.deepcopy(ask())
            change_all(ask())
            self.assertEqual(ask(), before)

    def test_two_pieces_share_nothing(self):
        first = Piece(HOUSE)
        second = Piece([(0, [("body", "other")])])
        self.assertEqual(second.fields(), ["body"])
        self.assertEqual(second.words("body"), ["other"])
        self.assertEqual(second.length(0, "title"), 0)
        self.assertEqual(all_told(first), all_told(Piece(HOUSE)))

    def test_kinds(self):
        piece = Piece(HOUSE)
        for told in (piece.makes(), piece.fields(), piece.words("body"), piece.postings("body", "old")):
            self.assertIs(type(told), list)
        for posting in piece.postings("body", "old"):
            self.assertIs(type(posting), tuple)
            self.assertIs(type(posting[1]), list)
        self.assertIs(type(piece.length(0, "body")), int)
        self.assertIs(type(piece.length(1, "body")), int)

    def test_against_plain_looking(self):
        chance = random.Random(7)
        for case in range(60):
            makes = some_makes(chance)
            piece = Piece(makes)
            self.assertEqual(piece.makes(), [make for make, document in makes])
            self.assertEqual(piece.fields(), [field for field in "abc" if plain_words(makes, field)])
            for field in "abcd":
                self.assertEqual(piece.words(field), plain_words(makes, field))
                for word in ("x", "y", "z", "xy", "0"):
                    self.assertEqual(piece.postings(field, word), plain_postings(makes, field, word))
                for make in range(40):
                    self.assertEqual(piece.length(make, field), len(plain_text(makes, make, field)))


def postings_of(counts, step=3):
    """Postings with so many places each, of every third make."""
    return [(step * k, list(range(count))) for k, count in enumerate(counts)]


class Stretches(unittest.TestCase):
    def test_none(self):
        self.assertEqual(stretches_of([]), [])

    def test_one_to_three(self):
        self.assertEqual(stretches_of([(5, [0, 9])]), [(5, 5, 2)])
        self.assertEqual(stretches_of([(5, [0, 9]), (8, [2])]), [(5, 8, 2)])
        self.assertEqual(stretches_of([(0, [4]), (8, [2]), (FAR, [0, 1, 7])]), [(0, FAR, 3)])

    def test_just_four(self):
        self.assertEqual(stretches_of(postings_of([1, 2, 1, 1])), [(0, 9, 2)])

    def test_more_than_four(self):
        self.assertEqual(stretches_of(postings_of([1, 2, 1, 1, 1])), [(0, 9, 2), (12, 12, 1)])
        self.assertEqual(stretches_of(postings_of([1, 2, 1, 1, 1, 3])), [(0, 9, 2), (12, 15, 3)])
        self.assertEqual(stretches_of(postings_of([1, 1, 1, 5, 4, 1, 1, 3])), [(0, 9, 5), (12, 21, 4)])
        self.assertEqual(stretches_of(postings_of([1, 1, 1, 5, 4, 1, 1, 3, 2, 2, 9])),
                         [(0, 9, 5), (12, 21, 4), (24, 30, 9)])

    def test_the_greatest_number_at_each_place_of_a_four(self):
        for at in range(8):
            counts = [2] * 8
            counts[at] = 6
            mosts = [most for first, last, most in stretches_of(postings_of(counts))]
            self.assertEqual(mosts, [6, 2] if at < 4 else [2, 6])

    def test_it_is_the_number_of_places_and_not_a_place(self):
        self.assertEqual(stretches_of([(0, [90]), (1, [3, 50])]), [(0, 1, 2)])

    def test_three_hundred(self):
        told = stretches_of(postings_of([1] * 300, 1))
        self.assertEqual(told, [(4 * k, 4 * k + 3, 1) for k in range(75)])

    def test_of_what_a_piece_tells(self):
        piece = Piece([(make, [("a", "x " * (make + 1))]) for make in range(6)])
        self.assertEqual(stretches_of(piece.postings("a", "x")), [(0, 3, 4), (4, 5, 6)])
        self.assertEqual(stretches_of(piece.postings("a", "y")), [])

    def test_the_postings_stay_and_the_told_list_is_the_askers_own(self):
        postings = postings_of([1, 2, 3, 4, 5])
        before = copy.deepcopy(postings)
        told = stretches_of(postings)
        self.assertEqual(postings, before)
        kept = copy.deepcopy(told)
        for make, places in postings:
            places.append(99)
        postings.append((99, [0]))
        self.assertEqual(told, kept)
        told.append(None)
        told[0] = None
        self.assertEqual(stretches_of(before), kept)

    def test_kinds(self):
        told = stretches_of(postings_of([1, 2, 3, 4, 5]))
        self.assertIs(type(told), list)
        for stretch in told:
            self.assertIs(type(stretch), tuple)


if __name__ == "__main__":
    unittest.main()
