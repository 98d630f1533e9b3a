"""Points 2, 3, 15, 16 and 17: the deeds of a house, what is asked of it, its stamps."""

import copy
import random
import unittest

from findcourt.errors import NoDocument, NoField, NoPiece, NoStamp
from findcourt.house import House
from findcourt.packs import piece_bytes
from findcourt.pieces import Piece
from findcourt.stands import Stand
from helpers import FAR, PlainHouse, change_all, do, plain_stand, some_deed, stand_told

OLD = [("body", "An old house"), ("title", "House")]
NEW = [("body", "A new house, a new garden")]
WRONG = [("a", "x"), ("b", "x"), ("a", "x")]


def house_told(house):
    """All that a house tells, its stands too."""
    pieces = house.pieces()
    told = {"pieces": pieces, "stamps": house.stamps(), "numbers": house.numbers(), "now": stand_told(house.now())}
    told["packed"] = [house.packed(at) for at in range(len(pieces) - 1)]
    for stamp in house.stamps():
        told["stand", stamp] = stand_told(house.stand(stamp))
    return told


def plain_house(plain):
    """The same of a house that is kept plainly."""
    told = {"pieces": plain.sealed + [plain.unsealed], "stamps": sorted(plain.kept), "numbers": sorted(plain.live)}
    told["packed"] = [piece_bytes(Piece([(make, plain.texts[make]) for make in makes])) if pack else None
                      for makes, pack in zip(plain.sealed, plain.packs)]
    told["now"] = plain_stand(plain.documents_at(None))
    for stamp in plain.kept:
        told["stand", stamp] = plain_stand(plain.documents_at(stamp))
    return told


def sealed_house(many, of_each=1):
    """A house of so many pieces, each of so many documents."""
    house = House()
    for piece in range(many):
        for document in range(of_each):
            house.put([("a", f"piece{piece} document{document} x")])
        house.seal()
    return house


class HouseCase(unittest.TestCase):
    def refused(self, refusal, house, deed):
        """The deed is refused, takes no time and changes nothing."""
        before = house_told(house)
        handed_in = copy.deepcopy(deed)
        with self.assertRaises(refusal) as caught:
            do(house, deed)
        self.assertIs(type(caught.exception), refusal)
        self.assertEqual(deed, handed_in)
        self.assertEqual(house_told(house), before)
        return caught.exception

    def time_of(self, house):
        """The time of the last deed, found by a stamp that is taken on a copy."""
        return copy.deepcopy(house).stamp() - 1


class Documents(HouseCase):
    def test_a_new_house(self):
        house = House()
        self.assertEqual(house_told(house), plain_house(PlainHouse()))
        self.assertEqual(house.pieces(), [[]])
        self.assertEqual(house.stamps(), [])
        self.assertEqual(house.numbers(), [])
        self.assertEqual(self.time_of(house), 0)

    def test_put_tells_the_numbers(self):
        house = House()
        self.assertEqual([house.put(OLD), house.put([]), house.put(OLD)], [0, 1, 2])
        self.assertEqual(house.numbers(), [0, 1, 2])
        self.assertEqual(house.pieces(), [[0, 1, 2]])
        self.assertEqual(house.now().document(2), OLD)
        self.assertEqual(house.now().document(1), [])

    def test_put_refuses(self):
        house = House()
        house.put(OLD)
        self.assertEqual(self.refused(NoField, house, ("put", WRONG)).place, 2)
        self.assertEqual(self.refused(NoField, house, ("put", [("A", "x")])).place, 0)
        self.assertEqual(house.put(NEW), 1)
        self.assertEqual(house.pieces(), [[0, 1]])
        self.assertEqual(self.time_of(house), 2)

    def test_change(self):
        house = House()
        house.put(OLD)
        house.put(NEW)
        self.assertIsNone(house.change(0, NEW))
        self.assertEqual(house.numbers(), [0, 1])
        self.assertEqual(house.pieces(), [[0, 1, 2]])
        self.assertEqual(house.now().document(0), NEW)
        self.assertEqual(house.now().postings("body", "new"), [(0, [1, 4]), (1, [1, 4])])
        self.assertEqual(house.now().postings("title", "house"), [])
        self.assertIsNone(house.change(0, []))
        self.assertEqual(house.now().document(0), [])
        self.assertEqual(house.numbers(), [0, 1])

    def test_change_to_the_same_makes_a_make(self):
        house = House()
        house.put(OLD)
        house.change(0, OLD)
        self.assertEqual(house.pieces(), [[0, 1]])

    def test_change_refuses(self):
        house = House()
        self.refused(NoDocument, house, ("change", 0, OLD))
        house.put(OLD)
        for number in (1, -1, FAR):
            self.refused(NoDocument, house, ("change", number, OLD))
            self.refused(NoDocument, house, ("change", number, WRONG))
        self.assertEqual(self.refused(NoField, house, ("change", 0, WRONG)).place, 2)
        house.take(0)
        self.refused(NoDocument, house, ("change", 0, NEW))
        self.refused(NoDocument, house, ("change", 0, WRONG))

    def test_take(self):
        house = House()
        for document in (OLD, NEW, []):
            house.put(document)
        self.assertIsNone(house.take(1))
        self.assertEqual(house.numbers(), [0, 2])
        self.assertEqual(house.pieces(), [[0, 1, 2]])
        self.assertEqual(house.now().words("body"), ["an", "house", "old"])

    def test_take_refuses(self):
        house = House()
        self.refused(NoDocument, house, ("take", 0))
        house.put(OLD)
        for number in (1, -1, FAR):
            self.refused(NoDocument, house, ("take", number))
        house.take(0)
        self.refused(NoDocument, house, ("take", 0))

    def test_a_taken_number_is_not_given_again(self):
        house = House()
        house.put(OLD)
        house.put(OLD)
        house.take(1)
        self.assertEqual(house.put(NEW), 2)
        house.take(0)
        house.take(2)
        self.assertEqual(house.numbers(), [])
        house.seal()
        house.thin()
        self.assertEqual(house.put(NEW), 3)
        self.assertEqual(house.pieces(), [[3]])

    def test_the_document_changed_behind(self):
        house = House()
        document = copy.deepcopy(OLD)
        house.put(document)
        self.assertEqual(document, OLD)
        document[0] = ("body", "other")
        document.append(("zoo", "more"))
        other = copy.deepcopy(NEW)
        house.put([])
        house.change(1, other)
        self.assertEqual(other, NEW)
        other.clear()
        self.assertEqual(house.now().document(0), OLD)
        self.assertEqual(house.now().document(1), NEW)
        house.seal()
        self.assertEqual(stand_told(house.now()), plain_stand({0: OLD, 1: NEW}))


class Times(HouseCase):
    def test_each_deed_takes_one(self):
        house = House()
        deeds = [("put", OLD), ("change", 0, NEW), ("seal",), ("seal",), ("pack", 0), ("pack", 0), ("pour", 0, 1),
                 ("thin",), ("put", []), ("take", 1), ("thin",)]
        for time, deed in enumerate(deeds, start=1):
            do(house, deed)
            self.assertEqual(self.time_of(house), time, deed)
        self.assertEqual(house.stamp(), 12)
        self.assertEqual(house.stamp(), 13)
        house.drop(12)
        self.assertEqual(house.stamp(), 15)
        self.assertEqual(house.stamps(), [13, 15])

    def test_refused_ones_and_asking_take_none(self):
        house = House()
        house.put(OLD)
        house.seal()
        for refusal, deed in ((NoField, ("put", WRONG)), (NoField, ("change", 0, WRONG)),
                              (NoDocument, ("change", 7, OLD)), (NoDocument, ("take", 7)), (NoStamp, ("drop", 1)),
                              (NoPiece, ("pour", 0, 2)), (NoPiece, ("pour", -1, 1)), (NoPiece, ("pour", 0, 0)),
                              (NoPiece, ("pack", 1)), (NoStamp, ("stand", 1)), (NoPiece, ("packed", 1))):
            self.refused(refusal, house, deed)
            self.assertEqual(self.time_of(house), 2, deed)

    def test_what_deeds_tell(self):
        house = House()
        self.assertEqual(house.put(OLD), 0)
        self.assertIsNone(house.change(0, NEW))
        self.assertEqual(house.stamp(), 3)
        self.assertIsNone(house.drop(3))
        self.assertIsNone(house.seal())
        self.assertIsNone(house.seal())
        self.assertIsNone(house.pour(0, 1))
        self.assertIsNone(house.pack(0))
        self.assertIsNone(house.thin())
        self.assertIsNone(house.take(0))
        self.assertIs(type(house.put(OLD)), int)
        self.assertIs(type(house.stamp()), int)


class Stamps(HouseCase):
    def test_stamp_and_drop(self):
        house = House()
        self.assertEqual(house.stamp(), 1)
        house.put(OLD)
        self.assertEqual(house.stamp(), 3)
        self.assertEqual(house.stamp(), 4)
        self.assertEqual(house.stamps(), [1, 3, 4])
        house.drop(3)
        self.assertEqual(house.stamps(), [1, 4])
        house.drop(1)
        house.drop(4)
        self.assertEqual(house.stamps(), [])

    def test_drop_refuses(self):
        house = House()
        self.refused(NoStamp, house, ("drop", 0))
        stamp = house.stamp()
        for other in (0, 2, -1, FAR):
            self.refused(NoStamp, house, ("drop", other))
        house.drop(stamp)
        self.refused(NoStamp, house, ("drop", stamp))

    def test_the_stand_of_a_stamp(self):
        house = House()
        house.put(OLD)
        first = house.stamp()
        house.change(0, NEW)
        house.put(OLD)
        second = house.stamp()
        house.take(0)
        self.assertIsInstance(house.stand(first), Stand)
        self.assertEqual(stand_told(house.stand(first)), plain_stand({0: OLD}))
        self.assertEqual(stand_told(house.stand(second)), plain_stand({0: NEW, 1: OLD}))
        self.assertEqual(stand_told(house.now()), plain_stand({1: OLD}))

    def test_stand_refuses(self):
        house = House()
        self.refused(NoStamp, house, ("stand", 0))
        house.put(OLD)
        stamp = house.stamp()
        for other in (0, 1, 3, -1, FAR):
            self.refused(NoStamp, house, ("stand", other))
        house.drop(stamp)
        self.refused(NoStamp, house, ("stand", stamp))


class Sealing(HouseCase):
    def test_seal(self):
        house = House()
        house.put(OLD)
        house.put(NEW)
        house.seal()
        self.assertEqual(house.pieces(), [[0, 1], []])
        house.change(0, NEW)
        self.assertEqual(house.pieces(), [[0, 1], [2]])
        house.seal()
        self.assertEqual(house.pieces(), [[0, 1], [2], []])

    def test_seal_without_makes(self):
        house = House()
        house.seal()
        self.assertEqual(house.pieces(), [[]])
        house.put(OLD)
        house.seal()
        house.seal()
        house.take(0)
        house.seal()
        self.assertEqual(house.pieces(), [[0], []])

    def test_makes_that_are_changed_or_taken_are_sealed_too(self):
        house = House()
        house.put(OLD)
        house.change(0, NEW)
        house.put(OLD)
        house.take(1)
        house.thin()
        self.assertEqual(house.pieces(), [[0, 1, 2]])
        house.seal()
        self.assertEqual(house.pieces(), [[0, 1, 2], []])
        self.assertEqual(stand_told(house.now()), plain_stand({0: NEW}))


class Pouring(HouseCase):
    def test_in_the_middle(self):
        house = sealed_house(5)
        house.put(OLD)
        before = stand_told(house.now())
        house.pour(1, 3)
        self.assertEqual(house.pieces(), [[0], [1, 2, 3], [4], [5]])
        self.assertEqual(stand_told(house.now()), before)

    def test_at_either_end_and_all(self):
        house = sealed_house(5, 2)
        house.pour(0, 2)
        self.assertEqual(house.pieces(), [[0, 1, 2, 3], [4, 5], [6, 7], [8, 9], []])
        house.pour(2, 2)
        self.assertEqual(house.pieces(), [[0, 1, 2, 3], [4, 5], [6, 7, 8, 9], []])
        house.pour(0, 3)
        self.assertEqual(house.pieces(), [list(range(10)), []])

    def test_one(self):
        house = sealed_house(2)
        before = house_told(house)
        house.pour(1, 1)
        self.assertEqual(house_told(house), before)
        house.pack(1)
        house.pour(1, 1)
        self.assertIsNone(house.packed(1))
        self.assertEqual(house_told(house), before)

    def test_makes_that_are_gone_stay(self):
        house = sealed_house(2)
        house.take(0)
        house.pour(0, 2)
        self.assertEqual(house.pieces(), [[0, 1], []])

    def test_packed_ones(self):
        house = sealed_house(4)
        before = stand_told(house.now())
        for at in (0, 1, 3):
            house.pack(at)
        house.pour(1, 2)
        self.assertEqual(house.pieces(), [[0], [1, 2], [3], []])
        self.assertEqual([house.packed(at) is None for at in range(3)], [False, True, False])
        self.assertEqual(stand_told(house.now()), before)

    def test_refused(self):
        house = House()
        self.refused(NoPiece, house, ("pour", 0, 1))
        house.put(OLD)
        self.refused(NoPiece, house, ("pour", 0, 1))
        house = sealed_house(3)
        house.put(OLD)
        house.pack(1)
        for first, many in ((-1, 1), (-1, 2), (-3, 3), (0, 0), (1, 0), (0, -1), (2, -1), (3, 0), (0, 4), (1, 3),
                            (2, 2), (3, 1), (4, 1), (FAR, 1), (0, FAR), (-FAR, FAR), (FAR, -FAR), (4, -2)):
            self.refused(NoPiece, house, ("pour", first, many))


class Thinning(HouseCase):
    def test_makes_that_nothing_needs(self):
        house = sealed_house(2, 3)
        house.take(1)
        house.change(3, NEW)
        before = stand_told(house.now())
        house.thin()
        self.assertEqual(house.pieces(), [[0, 2], [4, 5], [6]])
        self.assertEqual(stand_told(house.now()), before)

    def test_texts_that_nothing_needs_are_not_kept(self):
        house = sealed_house(2, 3)
        stamp = house.stamp()
        for number in (1, 3, 4, 5):
            house.take(number)
        house.thin()
        self.assertEqual(sorted(house.texts_by_make), [0, 1, 2, 3, 4, 5])
        house.drop(stamp)
        house.thin()
        self.assertEqual(sorted(house.texts_by_make), [0, 2])

    def test_nothing_to_thin(self):
        house = sealed_house(2, 2)
        house.pack(0)
        before = house_told(house)
        house.thin()
        self.assertEqual(house_told(house), before)
        empty = House()
        empty.thin()
        self.assertEqual(empty.pieces(), [[]])

    def test_kept_stamps_need_theirs(self):
        house = sealed_house(1, 3)
        stamp = house.stamp()
        told = stand_told(house.stand(stamp))
        house.take(0)
        house.change(1, NEW)
        house.thin()
        self.assertEqual(house.pieces(), [[0, 1, 2], [3]])
        self.assertEqual(stand_told(house.stand(stamp)), told)
        house.drop(stamp)
        self.assertEqual(house.pieces(), [[0, 1, 2], [3]])
        house.thin()
        self.assertEqual(house.pieces(), [[2], [3]])

    def test_makes_that_were_there_between_stamps_alone(self):
        house = House()
        house.put(OLD)
        house.stamp()
        house.change(0, NEW)
        house.change(0, [])
        house.stamp()
        house.change(0, OLD)
        house.seal()
        house.thin()
        self.assertEqual(house.pieces(), [[0, 2, 3], []])

    def test_of_several_stamps_one_is_enough(self):
        house = sealed_house(1, 2)
        first, second = house.stamp(), house.stamp()
        house.take(0)
        house.drop(first)
        house.thin()
        self.assertEqual(house.pieces(), [[0, 1], []])
        house.drop(second)
        house.thin()
        self.assertEqual(house.pieces(), [[1], []])

    def test_a_piece_with_none_left_is_gone(self):
        house = sealed_house(3, 2)
        house.pack(1)
        house.pack(2)
        house.take(2)
        house.take(3)
        house.thin()
        self.assertEqual(house.pieces(), [[0, 1], [4, 5], []])
        self.assertIsNone(house.packed(0))
        self.assertIsNotNone(house.packed(1))
        for number in (0, 1, 4, 5):
            house.take(number)
        house.thin()
        self.assertEqual(house.pieces(), [[]])
        self.refused(NoPiece, house, ("pack", 0))

    def test_packed_pieces(self):
        house = sealed_house(3, 2)
        for at in range(3):
            house.pack(at)
        rows = [house.packed(at) for at in range(3)]
        house.take(2)
        house.thin()
        self.assertEqual(house.pieces(), [[0, 1], [3], [4, 5], []])
        self.assertEqual([house.packed(at) for at in range(3)], [rows[0], None, rows[2]])

    def test_the_makes_not_sealed_stay(self):
        house = sealed_house(1)
        house.put(OLD)
        house.take(1)
        house.change(0, NEW)
        house.change(0, OLD)
        house.thin()
        self.assertEqual(house.pieces(), [[1, 2, 3]])
        house.seal()
        house.thin()
        self.assertEqual(house.pieces(), [[3], []])


class Packing(HouseCase):
    def test_pack(self):
        house = House()
        house.put(OLD)
        house.put(NEW)
        house.seal()
        before = stand_told(house.now())
        self.assertIsNone(house.packed(0))
        house.pack(0)
        self.assertEqual(house.packed(0), piece_bytes(Piece([(0, OLD), (1, NEW)])))
        self.assertEqual(house.pieces(), [[0, 1], []])
        self.assertEqual(stand_told(house.now()), before)

    def test_of_several(self):
        house = sealed_house(3)
        house.pack(1)
        self.assertEqual([house.packed(at) is None for at in range(3)], [True, False, True])
        self.assertEqual(house.packed(1), piece_bytes(Piece([(1, [("a", "piece1 document0 x")])])))

    def test_a_packed_one(self):
        house = sealed_house(2)
        house.pack(1)
        before = house_told(house)
        house.pack(1)
        self.assertEqual(house_told(house), before)

    def test_it_stays_packed_behind_other_deeds(self):
        house = sealed_house(3)
        house.pack(0)
        row = house.packed(0)
        for deed in (("put", OLD), ("change", 1, NEW), ("take", 2), ("stamp",), ("seal",), ("pour", 1, 2), ("thin",)):
            do(house, deed)
            self.assertEqual(house.packed(0), row, deed)
        house.pour(0, 2)
        self.assertIsNone(house.packed(0))

    def test_refused(self):
        house = House()
        house.put(OLD)
        for name in ("pack", "packed"):
            self.refused(NoPiece, house, (name, 0))
        house = sealed_house(2)
        house.put(OLD)
        house.pack(0)
        for name in ("pack", "packed"):
            for at in (-1, -2, 2, 3, FAR, -FAR):
                self.refused(NoPiece, house, (name, at))


class Asked(HouseCase):
    def test_each_told_list_changed_then_asked_again(self):
        house = sealed_house(2, 2)
        house.put(OLD)
        house.stamp()
        house.pack(0)
        before = house_told(house)
        for ask in (house.pieces, house.stamps, house.numbers, lambda: house.packed(0)):
            kept = copy.deepcopy(ask())
            change_all(ask())
            self.assertEqual(ask(), kept)
        self.assertEqual(house_told(house), before)

    def test_what_was_told_stays(self):
        house = sealed_house(2, 2)
        stamp = house.stamp()
        house.pack(0)
        told = [house.pieces(), house.stamps(), house.numbers(), house.packed(0)]
        kept = copy.deepcopy(told)
        house.put(OLD)
        house.take(0)
        house.drop(stamp)
        house.stamp()
        house.thin()
        house.seal()
        house.pour(0, 2)
        self.assertEqual(told, kept)

    def test_kinds(self):
        house = sealed_house(1)
        house.pack(0)
        for told in (house.pieces(), house.pieces()[0], house.pieces()[-1], house.stamps(), house.numbers(),
                     house.packed(0)):
            self.assertIs(type(told), list)


class Stands(HouseCase):
    def test_behind_deeds_of_all_kinds(self):
        house = sealed_house(3, 2)
        house.put(OLD)
        house.change(1, NEW)
        stamp = house.stamp()
        stand, now = house.stand(stamp), house.now()
        told = stand_told(stand)
        self.assertEqual(stand_told(now), told)
        for deed in (("put", NEW), ("change", 1, OLD), ("take", 6), ("take", 0), ("seal",), ("pack", 0), ("pack", 1),
                     ("pour", 0, 2), ("thin",), ("stamp",), ("drop", stamp), ("thin",), ("pack", 0), ("pour", 0, 2),
                     ("take", 1), ("take", 2), ("take", 3), ("take", 4), ("take", 5), ("take", 7), ("drop", 22),
                     ("thin",)):
            do(house, deed)
            self.assertEqual(stand_told(stand), told, deed)
            self.assertEqual(stand_told(now), told, deed)
        self.assertEqual(house.pieces(), [[]])

    def test_two_houses_side_by_side(self):
        one, other = House(), House()
        one.put(OLD)
        self.assertEqual(house_told(other), house_told(House()))
        self.assertEqual(other.put(NEW), 0)
        one.seal()
        self.assertEqual(other.pieces(), [[0]])
        self.assertEqual(one.stamp(), 3)
        self.assertEqual(other.stamp(), 2)
        self.assertEqual(stand_told(one.stand(3)), plain_stand({0: OLD}))
        self.assertEqual(stand_told(other.stand(2)), plain_stand({0: NEW}))
        with self.assertRaises(NoStamp):
            other.stand(3)

    def test_now_behind_changes(self):
        house = House()
        documents = {}
        self.assertEqual(stand_told(house.now()), plain_stand(documents))
        for number, document in ((house.put(OLD), OLD), (house.put([]), [])):
            documents[number] = document
        self.assertEqual(stand_told(house.now()), plain_stand(documents))
        house.change(1, NEW)
        documents[1] = NEW
        self.assertEqual(stand_told(house.now()), plain_stand(documents))
        house.take(0)
        documents.pop(0)
        self.assertEqual(stand_told(house.now()), plain_stand(documents))


class Histories(HouseCase):
    """Every history of deeds tells what plain looking tells."""

    def look_at_history(self, chance, many):
        house, plain = House(), PlainHouse()
        stands = []
        for deed in range(many):
            deed = some_deed(chance, plain)
            self.assertEqual(do(house, copy.deepcopy(deed)), do(plain, deed), deed)
            if chance.randrange(4) == 0:
                self.assertEqual(house_told(house), plain_house(plain), deed)
                stand = house.stand(chance.choice(house.stamps())) if house.stamps() else house.now()
                stands.append((stand, stand_told(stand)))
        self.assertEqual(house_told(house), plain_house(plain))
        for stand, told in stands:
            self.assertEqual(stand_told(stand), told)

    def test_short_ones(self):
        chance = random.Random(31)
        for case in range(60):
            self.look_at_history(chance, chance.randrange(20))

    def test_long_ones(self):
        chance = random.Random(32)
        for case in range(4):
            self.look_at_history(chance, 150)


if __name__ == "__main__":
    unittest.main()
