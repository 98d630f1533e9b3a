"""Points 5, 7 and 23: places of words, of rows, near ones and chains."""

import copy
import itertools
import random
import unittest

from findcourt.pieces import Piece
from findcourt.places import chain_from, chain_places, near_places, places_by_word, row_place, words_by_place


def places_of(text):
    return places_by_word(text.split())


class ByWord(unittest.TestCase):
    def test_places_of_words(self):
        self.assertEqual(places_of("the old house the garden"),
                         {"the": [0, 3], "old": [1], "house": [2], "garden": [4]})
        self.assertEqual(places_by_word([]), {})
        self.assertEqual(places_of("x x x"), {"x": [0, 1, 2]})

    def test_they_are_those_of_a_piece(self):
        piece = Piece([(0, [("a", "The old house, the garden")])])
        places = places_of("the old house the garden")
        self.assertEqual(piece.words("a"), sorted(places))
        for word in places:
            self.assertEqual(piece.postings("a", word), [(0, places[word])])

    def test_words_of_places(self):
        places = places_of("the old house the garden")
        self.assertEqual(words_by_place(["the", "house", "nowhere", "the"], places), {0: "the", 3: "the", 2: "house"})
        self.assertEqual(words_by_place(["nowhere"], places), {})

    def test_the_words_stay_and_the_told_dict_is_the_askers_own(self):
        words = ["x", "y"]
        told = places_by_word(words)
        words.append("x")
        self.assertEqual(told, {"x": [0], "y": [1]})
        told["x"].append(9)
        self.assertEqual(places_by_word(["x", "y"]), {"x": [0], "y": [1]})


class Rows(unittest.TestCase):
    def test_ordinary_ones(self):
        places = places_of("the old house the old garden")
        self.assertEqual(row_place(["the", "old"], places), 0)
        self.assertEqual(row_place(["the", "old", "garden"], places), 3)
        self.assertEqual(row_place(["old"], places), 1)
        self.assertEqual(row_place(["garden"], places), 5)
        self.assertIsNone(row_place(["old", "the"], places))
        self.assertIsNone(row_place(["garden", "the"], places))
        self.assertIsNone(row_place(["nowhere"], places))
        self.assertIsNone(row_place(["the", "nowhere"], places))
        self.assertIsNone(row_place(["old"], {}))

    def test_a_word_more_than_once(self):
        places = places_of("x y x x y")
        self.assertEqual(row_place(["x", "x"], places), 2)
        self.assertEqual(row_place(["x", "x", "y"], places), 2)
        self.assertIsNone(row_place(["x", "x", "x"], places))


class Near(unittest.TestCase):
    def test_ordinary_ones(self):
        places = places_of("the old house the old garden")
        self.assertEqual(near_places(["house", "the"], 2, places), [2, 3])
        self.assertEqual(near_places(["garden", "house"], 4, places), [5, 2])
        self.assertIsNone(near_places(["garden", "house"], 3, places))
        self.assertEqual(near_places(["old"], 1, places), [1])
        self.assertIsNone(near_places(["old", "nowhere"], 20, places))
        self.assertIsNone(near_places(["old"], 20, {}))

    def test_the_first_ones_are_told(self):
        self.assertEqual(near_places(["y", "x"], 2, places_of("x y x")), [1, 0])
        self.assertEqual(near_places(["x", "y"], 20, places_of("y x y x")), [1, 0])

    def test_places_are_unlike(self):
        places = places_of("x y x y y")
        self.assertEqual(near_places(["y", "y"], 2, places), [3, 4])
        self.assertIsNone(near_places(["x", "x"], 2, places))
        self.assertEqual(near_places(["x", "x"], 3, places), [0, 2])
        self.assertIsNone(near_places(["x", "x", "x"], 20, places))


class Chains(unittest.TestCase):
    def test_ordinary_ones(self):
        places = places_of("the old house the old garden")
        self.assertEqual(chain_places(["the", "house"], 3, places), [0, 2])
        self.assertIsNone(chain_places(["the", "house"], 2, places))
        self.assertEqual(chain_places(["the", "garden"], 3, places), [3, 5])
        self.assertEqual(chain_places(["old", "old"], 4, places), [1, 4])
        self.assertIsNone(chain_places(["garden", "house"], 20, places))
        self.assertEqual(chain_places(["old"], 1, places), [1])
        self.assertIsNone(chain_places(["old", "nowhere"], 20, places))
        self.assertIsNone(chain_places(["old"], 20, {}))

    def test_as_far_as_they_go(self):
        words = ["x", "y", "x", "z"]
        found = words_by_place(words, places_of("x y w x y z"))
        self.assertEqual(chain_from(words, 20, found, 0), [0, 1, 3, 5])
        self.assertEqual(chain_from(words, 5, found, 0), [0, 1, 3])
        self.assertEqual(chain_from(words, 4, found, 0), [0, 1, 3])
        self.assertEqual(chain_from(words, 3, found, 0), [0, 1])
        self.assertEqual(chain_from(words, 1, found, 0), [0])
        self.assertEqual(chain_from(words, 20, found, 3), [3, 4])


def choices_of(words, places):
    """Every choice of a place for each of the words, all unlike."""
    return [chosen for chosen in itertools.product(*[places.get(word, []) for word in words])
            if len(set(chosen)) == len(chosen)]


class AgainstAllChoices(unittest.TestCase):
    def test_of_chance(self):
        chance = random.Random(51)
        for case in range(1500):
            text = chance.choices("xyzw", k=chance.randrange(9))
            words = chance.choices("xyz", k=chance.randint(1, 4))
            width = chance.randint(1, 7)
            places = places_by_word(text)
            before, handed_in = copy.deepcopy(places), list(words)
            choices = choices_of(words, places)
            near = [chosen for chosen in choices if max(chosen) - min(chosen) < width]
            chains = [chosen for chosen in near if list(chosen) == sorted(chosen)]
            rows = [k for k in range(len(text)) if text[k:k + len(words)] == words]
            self.assertEqual(row_place(words, places), min(rows, default=None))
            told = near_places(words, width, places)
            self.assertEqual(told is None, not near)
            self.assertTrue(told is None or tuple(told) in near)
            told = chain_places(words, width, places)
            self.assertEqual(told is None, not chains)
            self.assertTrue(told is None or tuple(told) in chains)
            self.assertEqual((places, words), (before, handed_in))


if __name__ == "__main__":
    unittest.main()
