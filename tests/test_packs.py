"""Points 2 and 9 to 13: bytes of numbers, postings, texts and pieces, and what is read back."""

import itertools
import random
import unittest

from findcourt.errors import NoBytes
from findcourt.packs import number_bytes, piece_bytes, postings_bytes, text_bytes
from findcourt.packs import read_number, read_piece, read_postings, read_text
from findcourt.pieces import Piece
from helpers import FAR, SIGNS, all_told, some_makes

READERS = [read_number, read_postings, read_text, read_piece]


class BytesCase(unittest.TestCase):
    def refused(self, read, row):
        before = list(row)
        with self.assertRaises(NoBytes) as caught:
            read(row)
        self.assertIs(type(caught.exception), NoBytes)
        self.assertEqual(row, before)

    def look_at_row(self, row):
        self.assertIs(type(row), list)
        for byte in row:
            self.assertIs(type(byte), int)
            self.assertTrue(0 <= byte <= 255, byte)

    def read_or_refused(self, read, write, row):
        """Reads the row where it can be read: what is read has just these bytes."""
        before = list(row)
        try:
            told = read(row)
        except NoBytes:
            told = None
        else:
            self.assertEqual(write(told), before)
        self.assertEqual(row, before)
        return told


def rows_nearby(row):
    """Rows one step away from this one: cut, lengthened, a byte changed, left out or doubled."""
    for at in range(len(row)):
        yield row[:at]
        yield row[at:]
        yield row[:at] + row[at + 1:]
        yield row[:at] + [row[at]] + row[at:]
        for byte in (0, 1, 37, 127, 128, 255, 256, -1, row[at] + 1, row[at] - 1):
            yield row[:at] + [byte] + row[at + 1:]
    for byte in (0, 1, 128, 255, -1, 256):
        yield row + [byte]
        yield [byte] + row


class Numbers(BytesCase):
    ROWS = {
        0: [0], 1: [1], 127: [127], 128: [128, 1], 129: [129, 1], 255: [255, 1], 256: [128, 2],
        16383: [255, 127], 16384: [128, 128, 1], 16385: [129, 128, 1], 300: [172, 2],
        128 ** 3 - 1: [255, 255, 127], 128 ** 3: [128, 128, 128, 1],
    }

    def test_the_rows(self):
        for number, row in self.ROWS.items():
            self.assertEqual(number_bytes(number), row)
            self.assertEqual(read_number(row), number)

    def test_sixty_figures(self):
        for number in (FAR, 10 ** 60 - 1, int("123456789" * 6 + "123456"), 128 ** 28, 128 ** 28 - 1):
            row = number_bytes(number)
            self.look_at_row(row)
            self.assertEqual(sum((byte % 128) * 128 ** k for k, byte in enumerate(row)), number)
            self.assertEqual([byte >= 128 for byte in row], [True] * (len(row) - 1) + [False])
            self.assertEqual(read_number(row), number)
        self.assertEqual(number_bytes(128 ** 28), [128] * 28 + [1])

    def test_read_back(self):
        for number in itertools.chain(range(2000), range(16300, 16500), range(FAR, FAR + 200)):
            row = number_bytes(number)
            self.look_at_row(row)
            self.assertEqual(read_number(row), number)
            self.assertIs(type(read_number(row)), int)

    def test_the_told_list_is_the_askers_own(self):
        for number in (0, 5, 128, FAR):
            told = number_bytes(number)
            kept = list(told)
            told.append(7)
            told[0] = 9
            self.assertEqual(number_bytes(number), kept)

    def test_the_row_stays(self):
        for row in ([0], [128, 1], [129, 128, 1]):
            before = list(row)
            read_number(row)
            self.assertEqual(row, before)

    def test_refused(self):
        for row in ([], [128], [255], [128, 128], [0, 0], [1, 1], [128, 1, 0], [127, 0], [128, 0], [255, 0],
                    [128, 128, 0], [-1], [256], [128, -1], [128, 256], [1, -1], [-128, 1], [384], [FAR], [-FAR]):
            self.refused(read_number, row)

    def test_every_short_row(self):
        read = 0
        some = (-1, 0, 1, 2, 127, 128, 129, 255, 256)
        for many in range(4):
            for row in itertools.product(some, repeat=many):
                read += self.read_or_refused(read_number, number_bytes, list(row)) is not None
        # Of one byte 4; of two 3 behind each of 3; of three 3 behind each of 9.
        self.assertEqual(read, 4 + 9 + 27)


POSTINGS = {
    (): [0],
    ((0, (0,)),): [1, 0, 1, 0],
    ((5, (2, 3, 9)),): [1, 5, 3, 2, 1, 6],
    ((0, (4,)), (1, (0, 1)), (9, (7,))): [3, 0, 1, 4, 1, 2, 0, 1, 8, 1, 7],
    ((127, (127,)), (254, (0, 127, 254))): [2, 127, 1, 127, 127, 3, 0, 127, 127],
    ((128, (128,)), (256, (0, 128, 256))): [2, 128, 1, 1, 128, 1, 128, 1, 3, 0, 128, 1, 128, 1],
}


def lists_of(postings):
    return [(make, list(places)) for make, places in postings]


class Postings(BytesCase):
    def test_the_rows(self):
        for postings, row in POSTINGS.items():
            handed_in = lists_of(postings)
            self.assertEqual(postings_bytes(handed_in), row)
            self.assertEqual(handed_in, lists_of(postings))
            self.assertEqual(read_postings(row), lists_of(postings))

    def test_many_postings_and_places(self):
        postings = [(3 * make, list(range(0, 2 * make + 2, 2))) for make in range(200)]
        row = postings_bytes(postings)
        self.look_at_row(row)
        self.assertEqual(row[:8], [200, 1, 0, 1, 0, 3, 2, 0])
        self.assertEqual(read_postings(row), postings)

    def test_far_beyond_small_numbers(self):
        postings = [(FAR, [0, FAR, FAR + 1]), (FAR + 1, [FAR]), (3 * FAR, [7])]
        row = postings_bytes(postings)
        far = number_bytes(FAR)
        self.assertEqual(row, [3] + far + [3, 0] + far + [1] + [1, 1] + far + number_bytes(2 * FAR - 1) + [1, 7])
        self.assertEqual(read_postings(row), postings)

    def test_steps(self):
        for step in (1, 2, 126, 127, 128, 129, 16383, 16384, FAR):
            postings = [(make * step, [place * step for place in range(3)]) for make in range(4)]
            self.assertEqual(read_postings(postings_bytes(postings)), postings)

    def test_what_is_told_is_the_askers_own(self):
        postings = [(0, [1, 2]), (4, [0])]
        row = postings_bytes(postings)
        kept = list(row)
        postings[0][1].append(9)
        postings.pop()
        self.assertEqual(row, kept)
        row.append(1)
        self.assertEqual(postings_bytes([(0, [1, 2]), (4, [0])]), kept)
        told = read_postings(kept)
        kept[1] = 99
        self.assertEqual(told, [(0, [1, 2]), (4, [0])])
        told[0][1].clear()
        told.clear()
        self.assertEqual(read_postings([2, 0, 2, 1, 1, 4, 1, 0]), [(0, [1, 2]), (4, [0])])

    def test_kinds(self):
        told = read_postings([1, 5, 3, 2, 1, 6])
        self.assertIs(type(told), list)
        self.assertIs(type(told[0]), tuple)
        self.assertIs(type(told[0][1]), list)

    def test_refused(self):
        for row in (
                [], [1], [1, 5], [1, 5, 1], [1, 5, 2, 0], [2, 0, 1, 0],     # cut
                [0, 0], [1, 0, 1, 0, 0], [0, 1, 0, 1, 0],                   # something left behind
                [1, 0, 0], [2, 0, 1, 0, 1, 0],                              # a make without places
                [2, 0, 1, 0, 0, 1, 0], [2, 5, 1, 0, 0, 1, 0],               # makes that do not rise
                [1, 0, 2, 0, 0], [1, 0, 2, 7, 0], [1, 0, 3, 7, 1, 0],       # places that do not rise
                [128, 0], [129, 0, 0, 1, 0], [1, 128, 0, 1, 0], [1, 0, 129, 0, 0], [1, 0, 1, 128, 0],
                [-1], [1, -1, 1, 0], [1, 0, -1, 0], [1, 0, 1, -1], [256], [1, 256, 1, 0], [1, 0, 1, 256]):
            self.refused(read_postings, row)

    def test_far_more_told_than_there_are(self):
        for row in (number_bytes(FAR), number_bytes(FAR) + [0, 1, 0], [1, 0] + number_bytes(FAR) + [0, 1, 1]):
            self.refused(read_postings, row)

    def test_every_short_row(self):
        for many in range(7):
            for row in itertools.product((0, 1, 2, 128), repeat=many):
                self.read_or_refused(read_postings, postings_bytes, list(row))

    def test_every_row_a_step_away(self):
        for row in POSTINGS.values():
            for other in rows_nearby(row):
                self.read_or_refused(read_postings, postings_bytes, other)


class Texts(BytesCase):
    def test_the_rows(self):
        for text, row in (("", [0]), ("a", [1, 97]), (" ", [1, 32]), ("~", [1, 126]), ("$&", [2, 36, 38]),
                          ("Ab 9", [4, 65, 98, 32, 57]), ("it's", [4, 105, 116, 39, 115])):
            self.assertEqual(text_bytes(text), row)
            self.assertEqual(read_text(row), text)

    def test_each_sign(self):
        self.assertEqual(len(SIGNS), 94)
        for sign in SIGNS:
            self.assertEqual(text_bytes(sign), [1, ord(sign)])
            self.assertEqual(read_text([1, ord(sign)]), sign)
        text = "".join(SIGNS)
        self.assertEqual(text_bytes(text), [94] + [code for code in range(32, 127) if code != 37])
        self.assertEqual(read_text(text_bytes(text)), text)

    def test_long_texts(self):
        for many, beginning in ((127, [127]), (128, [128, 1]), (129, [129, 1]), (2000, [208, 15])):
            text = "".join(itertools.islice(itertools.cycle(SIGNS), many))
            row = text_bytes(text)
            self.look_at_row(row)
            self.assertEqual(row, beginning + [ord(sign) for sign in text])
            self.assertEqual(read_text(row), text)

    def test_the_told_list_is_the_askers_own(self):
        told = text_bytes("abc")
        told.clear()
        self.assertEqual(text_bytes("abc"), [3, 97, 98, 99])

    def test_refused(self):
        for row in ([], [1], [2, 97], [3, 97, 98], [128, 1, 97],             # cut
                    [0, 97], [1, 97, 98], [0, 0], [1, 97, 0],                # something left behind
                    [128, 0], [129, 0, 97],                                  # a last byte 0
                    [-1], [256], [1, -1], [1, 256], [1, 353], [1, -159],     # no bytes
                    [1, 37], [3, 97, 37, 98], [2, 97, 37]):                  # the sign of no text
            self.refused(read_text, row)

    def test_each_byte_that_is_no_sign(self):
        for byte in [*range(-5, 32), 37, *range(127, 260)]:
            self.refused(read_text, [1, byte])
            self.refused(read_text, [3, 97, byte, 97])

    def test_far_more_told_than_there_are(self):
        self.refused(read_text, number_bytes(FAR) + [97])

    def test_every_row_a_step_away(self):
        for text in ("", "ab", "x" * 130):
            for row in rows_nearby(text_bytes(text)):
                self.read_or_refused(read_text, text_bytes, row)


HOUSE = [
    (0, [("body", "The old house, the old garden."), ("title", "House")]),
    (2, []),
    (3, [("body", "..."), ("note", ""), ("title", "The garden 7")]),
    (FAR, [("body", "Old OLD old"), ("title", "Garden")]),
]

# Of [(4, [("a", "x y x"), ("b", "y")]), (6, [("a", "x")])].
SMALL = [2, 4, 2,                                       # the makes
         2,                                             # two fields
         1, 97, 3, 1,                                   # a, and its lengths
         2, 1, 120, 2, 4, 2, 0, 2, 2, 1, 0,             # two words: x
         1, 121, 1, 4, 1, 1,                            # y
         1, 98, 1, 0,                                   # b, and its lengths
         1, 1, 121, 1, 4, 1, 0]                         # one word: y


def documents_of(piece):
    """The makes list of a piece, made from what it tells: its words in their places."""
    makes = []
    for make in piece.makes():
        document = []
        for field in piece.fields():
            places = {place: word for word in piece.words(field)
                      for other, found in piece.postings(field, word) if other == make for place in found}
            if places:
                document.append((field, " ".join(places.get(place, "-") for place in range(max(places) + 1))))
        makes.append((make, document))
    return makes


class Pieces(BytesCase):
    def look_at_piece(self, makes):
        piece = Piece(makes)
        before = all_told(piece)
        row = piece_bytes(piece)
        self.look_at_row(row)
        kept = list(row)
        read = read_piece(row)
        self.assertEqual(row, kept)
        self.assertIsInstance(read, Piece)
        self.assertEqual(all_told(read), before)
        self.assertEqual(all_told(piece), before)
        self.assertEqual(piece_bytes(read), row)
        return row

    def test_without_makes(self):
        self.assertEqual(self.look_at_piece([]), [0, 0])

    def test_makes_without_words(self):
        self.assertEqual(self.look_at_piece([(0, [])]), [1, 0, 0])
        self.assertEqual(self.look_at_piece([(3, []), (4, [("a", ""), ("b", "--")]), (200, [])]),
                         [3, 3, 1, 196, 1, 0])

    def test_one_word(self):
        self.assertEqual(self.look_at_piece([(5, [("ab", "Hi")])]),
                         [1, 5, 1, 2, 97, 98, 1, 1, 2, 104, 105, 1, 5, 1, 0])

    def test_several_fields_words_and_makes(self):
        self.assertEqual(self.look_at_piece([(4, [("a", "x y x"), ("b", "y")]), (6, [("a", "x")])]), SMALL)

    def test_an_ordinary_one(self):
        row = self.look_at_piece(HOUSE)
        self.assertEqual(row[:2], [4, 0])
        self.assertEqual(all_told(read_piece(row)), all_told(Piece(HOUSE)))

    def test_many_makes(self):
        for many, beginning in ((127, [127, 0]), (128, [128, 1, 0]), (300, [172, 2, 0])):
            row = self.look_at_piece([(2 * make, [("a", f"x{make % 7} y")]) for make in range(many)])
            self.assertEqual(row[:len(beginning) + 2], beginning + [2, 2])

    def test_many_words_in_a_field(self):
        for many in (127, 128, 129, 400):
            row = self.look_at_piece([(0, [("a", " ".join(f"w{k}" for k in range(many)))])])
            self.assertEqual(row[:5], [1, 0, 1, 1, 97])
            self.assertEqual(row[5:5 + 2 * len(number_bytes(many))], number_bytes(many) * 2)
        self.look_at_piece([(0, [("a", "x " * 1000)]), (1, [("a", "x y " * 300)])])

    def test_long_words(self):
        self.look_at_piece([(0, [("a", "q" * 2000), ("abcdefghijkl", "q" * 128)])])

    def test_twenty_fields(self):
        row = self.look_at_piece([(0, [(letter, "word " + letter) for letter in "abcdefghijklmnopqrst"])])
        self.assertEqual(row[:3], [1, 0, 20])

    def test_of_chance(self):
        chance = random.Random(11)
        rows = {}
        for case in range(150):
            row = self.look_at_piece(some_makes(chance))
            told = repr(all_told(read_piece(row)))
            self.assertEqual(rows.setdefault(tuple(row), told), told)
        self.assertEqual(len(set(rows.values())), len(rows))

    def test_what_is_told_is_the_askers_own(self):
        piece = Piece(HOUSE)
        row = piece_bytes(piece)
        kept = list(row)
        read = read_piece(row)
        row.reverse()
        self.assertEqual(all_told(read), all_told(piece))
        self.assertEqual(piece_bytes(piece), kept)
        read.postings("body", "old")[0][1].clear()
        read.makes().clear()
        read.words("body").clear()
        read.fields().clear()
        self.assertEqual(all_told(read), all_told(piece))
        self.assertEqual(all_told(read_piece(kept)), all_told(piece))

    def test_every_row_a_step_away(self):
        for row in (SMALL, [0, 0], [3, 3, 1, 196, 1, 0], piece_bytes(Piece(HOUSE))):
            for other in rows_nearby(row):
                piece = self.read_or_refused(read_piece, piece_bytes, other)
                if piece is not None:
                    self.assertEqual(all_told(piece), all_told(Piece(documents_of(piece))))

    def test_rows_of_chance(self):
        chance = random.Random(12)
        for case in range(4000):
            row = list(SMALL)
            for deed in range(chance.randint(1, 4)):
                at = chance.randrange(len(row))
                row[at:at + chance.randrange(3)] = chance.choices([0, 0, 1, 1, 2, 3, 4, 97, 98, 120, 121, 128],
                                                                  k=chance.randrange(3))
                row = row or [0]
            piece = self.read_or_refused(read_piece, piece_bytes, row)
            if piece is not None:
                self.assertEqual(all_told(piece), all_told(Piece(documents_of(piece))))


# A field a with one word x, in one make 4; each is told with what stands in the place of it.
def one_field(name=(1, 97), lengths=(1,), words=(1, 1, 120, 1, 4, 1, 0), makes=(1, 4), fields=(1,)):
    return [*makes, *fields, *name, *lengths, *words]


class RefusedPieces(BytesCase):
    def test_the_row_they_are_made_of_is_right(self):
        self.assertEqual(one_field(), piece_bytes(Piece([(4, [("a", "x")])])))

    def test_every_cut_row(self):
        for row in (SMALL, one_field(), piece_bytes(Piece(HOUSE))):
            for many in range(len(row)):
                self.refused(read_piece, row[:many])

    def test_something_left_behind(self):
        for row in ([0, 0], SMALL, one_field()):
            for byte in (0, 1, 97, 128, -1, 256):
                self.refused(read_piece, row + [byte])
            self.refused(read_piece, row + row)

    def test_a_last_byte_0(self):
        self.refused(read_piece, [128, 0, 0])
        self.refused(read_piece, [0, 128, 0])
        self.refused(read_piece, one_field(makes=(1, 132, 0)))
        self.refused(read_piece, one_field(makes=(129, 0, 4)))
        self.refused(read_piece, one_field(fields=(129, 0)))
        self.refused(read_piece, one_field(name=(129, 0, 97)))
        self.refused(read_piece, one_field(lengths=(129, 0)))
        self.refused(read_piece, one_field(words=(129, 0, 1, 120, 1, 4, 1, 0)))
        self.refused(read_piece, one_field(words=(1, 129, 0, 120, 1, 4, 1, 0)))
        self.refused(read_piece, one_field(words=(1, 1, 120, 129, 0, 4, 1, 0)))
        self.refused(read_piece, one_field(words=(1, 1, 120, 1, 132, 0, 1, 0)))
        self.refused(read_piece, one_field(words=(1, 1, 120, 1, 4, 129, 0, 0)))
        self.refused(read_piece, one_field(words=(1, 1, 120, 1, 4, 1, 128, 0)))

    def test_numbers_that_are_no_bytes(self):
        for row in (SMALL, one_field()):
            for at in range(len(row)):
                for byte in (-1, -128, 256, 256 + row[at], row[at] - 256, FAR):
                    self.refused(read_piece, row[:at] + [byte] + row[at + 1:])

    def test_makes_that_do_not_rise(self):
        self.refused(read_piece, [2, 0, 0, 0])
        self.refused(read_piece, [2, 5, 0, 0])
        self.refused(read_piece, [3, 5, 1, 0, 0])

    def test_makes_of_a_word_that_do_not_rise(self):
        self.refused(read_piece, one_field(lengths=(2,), words=(1, 1, 120, 2, 4, 1, 0, 0, 1, 1)))

    def test_places_that_do_not_rise(self):
        self.refused(read_piece, one_field(lengths=(2,), words=(1, 1, 120, 1, 4, 2, 0, 0)))
        self.refused(read_piece, one_field(lengths=(1,), words=(1, 1, 120, 1, 4, 2, 0, 0)))

    def test_fields_that_do_not_rise(self):
        field = [1, 97, 1, 1, 1, 120, 1, 4, 1, 0]
        other = [1, 98] + field[2:]
        self.assertEqual(read_piece([1, 4, 2] + field + other).fields(), ["a", "b"])
        self.refused(read_piece, [1, 4, 2] + other + field)
        self.refused(read_piece, [1, 4, 2] + field + field)
        self.refused(read_piece, [1, 4, 2] + field + field + other)

    def test_words_that_do_not_rise(self):
        self.assertEqual(read_piece(one_field(lengths=(2,), words=(2, 1, 120, 1, 4, 1, 0, 1, 121, 1, 4, 1, 1)))
                         .words("a"), ["x", "y"])
        self.refused(read_piece, one_field(lengths=(2,), words=(2, 1, 121, 1, 4, 1, 1, 1, 120, 1, 4, 1, 0)))
        self.refused(read_piece, one_field(lengths=(2,), words=(2, 1, 120, 1, 4, 1, 0, 1, 120, 1, 4, 1, 1)))
        self.refused(read_piece, one_field(lengths=(2,), words=(2, 1, 120, 1, 4, 1, 0, 1, 120, 1, 4, 1, 0,
                                                                1, 121, 1, 4, 1, 1)))
        # As texts rise, and not by their lengths.
        self.refused(read_piece, one_field(lengths=(2,), words=(2, 1, 120, 1, 4, 1, 0, 2, 97, 97, 1, 4, 1, 1)))

    def test_a_field_that_is_no_name(self):
        for name in ("", "A", "1", "a1", "a b", "*", "aB", "abcdefghijklm"):
            self.refused(read_piece, one_field(name=text_bytes(name)))
        self.assertEqual(read_piece(one_field(name=text_bytes("abcdefghijkl"))).fields(), ["abcdefghijkl"])

    def test_a_field_without_words(self):
        self.refused(read_piece, one_field(lengths=(0,), words=(0,)))
        self.refused(read_piece, one_field(lengths=(1,), words=(0,)))
        self.refused(read_piece, [0, 1, 1, 97, 0])

    def test_a_word_that_is_none(self):
        for word in ("", "X", "a b", "aB", "-", "a'", "*", "x?"):
            self.refused(read_piece, one_field(words=[1] + text_bytes(word) + [1, 4, 1, 0]))
        for word in ("0", "a0", "q" * 200):
            self.assertEqual(read_piece(one_field(words=[1] + text_bytes(word) + [1, 4, 1, 0])).words("a"), [word])

    def test_signs_that_no_text_has(self):
        for byte in (0, 10, 31, 37, 127, 128, 200, 255):
            self.refused(read_piece, one_field(name=(1, byte)))
            self.refused(read_piece, one_field(words=(1, 1, byte, 1, 4, 1, 0)))

    def test_a_word_without_postings(self):
        self.refused(read_piece, one_field(lengths=(0,), words=(1, 1, 120, 0)))
        self.refused(read_piece, one_field(words=(2, 1, 120, 1, 4, 1, 0, 1, 121, 0)))
        self.refused(read_piece, [0, 1, 1, 97, 1, 1, 120, 0])

    def test_a_make_without_places(self):
        self.refused(read_piece, one_field(lengths=(0,), words=(1, 1, 120, 1, 4, 0)))
        self.refused(read_piece, [2, 4, 1, 1, 1, 97, 1, 0, 1, 1, 120, 2, 4, 1, 0, 1, 0])

    def test_a_make_that_the_piece_has_not(self):
        self.refused(read_piece, one_field(words=(1, 1, 120, 1, 5, 1, 0)))
        self.refused(read_piece, one_field(words=(1, 1, 120, 2, 4, 1, 0, 1, 1, 0)))
        self.refused(read_piece, [0, 1, 1, 97, 1, 1, 120, 1, 4, 1, 0])

    def test_a_place_without_a_word(self):
        self.refused(read_piece, one_field(lengths=(2,)))
        self.refused(read_piece, one_field(lengths=(2,), words=(1, 1, 120, 1, 4, 1, 1)))
        self.refused(read_piece, one_field(lengths=(1,), words=(1, 1, 120, 1, 4, 1, 1)))
        self.refused(read_piece, one_field(lengths=(0,)))
        self.refused(read_piece, one_field(lengths=(3,), words=(1, 1, 120, 1, 4, 2, 0, 2)))
        self.refused(read_piece, one_field(lengths=number_bytes(FAR)))

    def test_a_place_with_two_words(self):
        for length in (1, 2):
            words = (2, 1, 120, 1, 4, 1, 0, 1, 121, 1, 4, 1, 0)
            self.refused(read_piece, one_field(lengths=(length,), words=words))

    def test_lengths_that_are_right_in_sum_alone(self):
        # Of x in 4 and x in 6, each with one word: 2 and 0 have the same sum.
        words = [1, 1, 120, 2, 4, 1, 0, 2, 1, 0]
        self.assertEqual(read_piece([2, 4, 2, 1, 1, 97, 1, 1] + words).length(6, "a"), 1)
        self.refused(read_piece, [2, 4, 2, 1, 1, 97, 2, 0] + words)
        self.refused(read_piece, [2, 4, 2, 1, 1, 97, 0, 2] + words)

    def test_far_more_told_than_there_are(self):
        far = number_bytes(FAR)
        self.refused(read_piece, far + [0])
        self.refused(read_piece, [0] + far)
        self.refused(read_piece, one_field(fields=far))
        self.refused(read_piece, one_field(words=far + [1, 120, 1, 4, 1, 0]))
        self.refused(read_piece, one_field(words=[1, 1, 120] + far + [4, 1, 0]))


class EmptyRows(BytesCase):
    def test_the_empty_row_is_nothings(self):
        for read in READERS:
            self.refused(read, [])


if __name__ == "__main__":
    unittest.main()
