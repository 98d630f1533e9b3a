"""Points 2 and 14: pieces poured together."""

import copy
import itertools
import random
import unittest

from findcourt.errors import NoMake
from findcourt.packs import piece_bytes, read_piece
from findcourt.pieces import Piece
from findcourt.pouring import poured
from helpers import FAR, all_told, change_all, some_makes

MAKES = [
    (0, [("body", "The old house, the old garden."), ("title", "House")]),
    (2, []),
    (3, [("body", "..."), ("note", ""), ("title", "The garden 7")]),
    (5, [("lone", "here alone"), ("title", "seven")]),
    (FAR, [("body", "Old OLD old"), ("title", "Garden")]),
]


def piece_of(makes):
    return Piece([pair for pair in MAKES if pair[0] in makes])


class Poured(unittest.TestCase):
    def look_at_poured(self, pieces, gone, makes):
        before = [all_told(piece) for piece in pieces]
        many, left_out = list(pieces), list(gone)
        told = poured(pieces, gone)
        self.assertIsInstance(told, Piece)
        self.assertEqual(all_told(told), all_told(Piece(makes)))
        self.assertEqual(piece_bytes(told), piece_bytes(Piece(makes)))
        self.assertEqual([all_told(piece) for piece in pieces], before)
        self.assertEqual(pieces, many)
        self.assertEqual(gone, left_out)
        return told

    def test_no_pieces(self):
        self.look_at_poured([], [], [])
        self.look_at_poured([], [0, 7, -1], [])

    def test_one_piece(self):
        self.look_at_poured([Piece(MAKES)], [], MAKES)
        self.look_at_poured([Piece([])], [], [])

    def test_pieces_without_makes(self):
        empty = Piece([])
        self.look_at_poured([Piece([]), Piece(MAKES), Piece([])], [], MAKES)
        self.look_at_poured([empty, empty], [], [])

    def test_several_in_every_order(self):
        parts = [piece_of([0]), piece_of([2, 5]), piece_of([3]), piece_of([FAR])]
        for pieces in itertools.permutations(parts):
            self.look_at_poured(list(pieces), [], MAKES)

    def test_every_grouping(self):
        makes = [make for make, document in MAKES]
        for numbers in itertools.product(range(3), repeat=len(makes)):
            pieces = [piece_of([make for make, number in zip(makes, numbers) if number == k]) for k in range(3)]
            self.look_at_poured(pieces, [], MAKES)

    def test_poured_step_by_step(self):
        parts = [piece_of([FAR]), piece_of([2, 5]), piece_of([0]), piece_of([3])]
        one = poured(parts[:2], [2])
        other = poured(parts[2:], [FAR, 2])
        self.look_at_poured([other, one], [], [pair for pair in MAKES if pair[0] != 2])
        self.look_at_poured([one, other], [3], [pair for pair in MAKES if pair[0] not in (2, 3)])

    def test_makes_of_other_pieces_between(self):
        one = Piece([(make, [("a", f"x {make}")]) for make in range(0, 300, 2)])
        other = Piece([(make, [("a", f"x {make}")]) for make in range(1, 300, 2)])
        told = self.look_at_poured([one, other], [], [(make, [("a", f"x {make}")]) for make in range(300)])
        self.assertEqual(told.postings("a", "x"), [(make, [0]) for make in range(300)])

    def test_every_choice_left_out(self):
        makes = [make for make, document in MAKES]
        pieces = [piece_of([0, 5]), piece_of([2, 3, FAR])]
        for many in range(len(makes) + 1):
            for gone in itertools.combinations(makes, many):
                self.look_at_poured(pieces, list(gone), [pair for pair in MAKES if pair[0] not in gone])

    def test_all_left_out(self):
        told = poured([Piece(MAKES)], [0, 2, 3, 5, FAR])
        self.assertEqual((told.makes(), told.fields(), told.words("body")), ([], [], []))

    def test_left_out_though_not_there(self):
        self.look_at_poured([Piece(MAKES)], [1, 4, -1, -FAR, FAR + 1], MAKES)
        self.look_at_poured([Piece(MAKES)], [1, 3, 3, -5, 3], [pair for pair in MAKES if pair[0] != 3])

    def test_words_and_fields_of_makes_left_out_are_gone(self):
        told = poured([Piece(MAKES)], [5])
        self.assertEqual(told.fields(), ["body", "title"])
        self.assertEqual(told.words("lone"), [])
        self.assertNotIn("seven", told.words("title"))
        self.assertEqual(told.length(5, "lone"), 0)
        self.assertEqual(told.postings("title", "seven"), [])

    def test_lengths(self):
        told = poured([piece_of([FAR]), piece_of([0, 3])], [3])
        self.assertEqual([told.length(make, "body") for make in (0, 2, 3, FAR)], [6, 0, 0, 3])
        self.assertEqual([told.length(make, "title") for make in (0, 2, 3, FAR)], [1, 0, 0, 1])

    def test_pieces_that_were_read_back(self):
        pieces = [read_piece(piece_bytes(piece_of([0, 5]))), piece_of([2]), read_piece(piece_bytes(piece_of([3])))]
        self.look_at_poured(pieces, [2], [pair for pair in MAKES if pair[0] in (0, 3, 5)])

    def test_of_chance(self):
        chance = random.Random(21)
        for case in range(200):
            makes = some_makes(chance)
            groups = [[], [], []]
            for pair in makes:
                chance.choice(groups).append(pair)
            gone = chance.choices(range(40), k=chance.randrange(20))
            self.look_at_poured([Piece(group) for group in groups], gone,
                                [pair for pair in makes if pair[0] not in gone])


class Shared(unittest.TestCase):
    def refused_at(self, pieces, gone):
        before = [all_told(piece) for piece in pieces]
        many, left_out = list(pieces), list(gone)
        with self.assertRaises(NoMake) as caught:
            poured(pieces, gone)
        self.assertEqual([all_told(piece) for piece in pieces], before)
        self.assertEqual(pieces, many)
        self.assertEqual(gone, left_out)
        return caught.exception.place

    def test_one_make_in_common(self):
        for gone in ([], [7], [0], [3], [0, 2, 3, 5, FAR]):
            self.assertEqual(self.refused_at([piece_of([0, 3]), piece_of([3, 5])], gone), 3)
        self.assertEqual(self.refused_at([piece_of([0, FAR]), piece_of([FAR])], []), FAR)
        self.assertEqual(self.refused_at([piece_of([0]), piece_of([0])], []), 0)

    def test_of_several_the_least(self):
        for pieces in itertools.permutations([piece_of([2, 5, FAR]), piece_of([0, 5]), piece_of([2, 3]),
                                              piece_of([FAR])]):
            for gone in ([], [2], [2, 5], [5, FAR]):
                self.assertEqual(self.refused_at(list(pieces), gone), 2)

    def test_pieces_apart_from_each_other_in_the_list(self):
        self.assertEqual(self.refused_at([piece_of([5]), piece_of([0]), Piece([]), piece_of([5])], []), 5)
        self.assertEqual(self.refused_at([piece_of([5])] * 3, [5]), 5)

    def test_one_piece_twice(self):
        piece = piece_of([3, 5])
        self.assertEqual(self.refused_at([piece, piece], []), 3)

    def test_a_make_without_words_in_common(self):
        self.assertEqual(self.refused_at([piece_of([2]), piece_of([0, 2])], []), 2)


class Own(unittest.TestCase):
    def test_what_is_told_is_the_askers_own(self):
        pieces = [piece_of([0, 5]), piece_of([3, FAR])]
        told = poured(pieces, [])
        before = copy.deepcopy(all_told(told))
        parts = [copy.deepcopy(all_told(piece)) for piece in pieces]
        change_all(all_told(told))
        for piece in pieces:
            change_all(all_told(piece))
        self.assertEqual(all_told(told), before)
        self.assertEqual([all_told(piece) for piece in pieces], parts)

    def test_the_lists_changed_behind(self):
        pieces, gone = [piece_of([0, 5]), piece_of([3])], [5]
        told = poured(pieces, gone)
        before = all_told(told)
        pieces.clear()
        gone[0] = 0
        self.assertEqual(all_told(told), before)
        self.assertEqual(told.makes(), [0, 3])

    def test_told_again_it_is_another_one(self):
        piece = Piece(MAKES)
        self.assertIsNot(poured([piece], []), piece)


if __name__ == "__main__":
    unittest.main()
