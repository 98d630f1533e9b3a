"""The house: documents that come, are changed and go, their makes in pieces, and its kept stamps."""

from findcourt.errors import NoDocument, NoPiece, NoStamp
from findcourt.packs import piece_bytes, read_piece
from findcourt.pieces import Piece
from findcourt.pouring import poured
from findcourt.stands import Stand
from findcourt.words import look_at_document


def unpacked(kept):
    return kept if isinstance(kept, Piece) else read_piece(kept)


class House:
    def __init__(self):
        self.time = 0
        self.numbers_given = 0
        self.makes_made = 0
        # The document that each make is of, for all makes that some piece has or that are not sealed.
        self.texts_by_make = {}
        # The make that each document there now is of, by its number; and as it was, by stamp.
        self.makes_by_number = {}
        self.kept_by_stamp = {}
        # Pieces, or the bytes of those that are packed.
        self.sealed = []
        self.unsealed = []

    def new_make(self, document):
        make = self.makes_made
        self.makes_made += 1
        # Copied, since whoever handed the list in may change it behind.
        self.texts_by_make[make] = [(field, text) for field, text in document]
        self.unsealed.append(make)
        return make

    def look_at_number(self, number):
        if number not in self.makes_by_number:
            raise NoDocument("no document has this number now")

    def look_at_stamp(self, stamp):
        if stamp not in self.kept_by_stamp:
            raise NoStamp("no such stamp is kept")

    def look_at_pieces(self, first, many):
        if first < 0 or many < 1 or first + many > len(self.sealed):
            raise NoPiece("there are no such pieces")

    def put(self, document):
        look_at_document(document)
        self.time += 1
        number = self.numbers_given
        self.numbers_given += 1
        self.makes_by_number[number] = self.new_make(document)
        return number

    def change(self, number, document):
        self.look_at_number(number)
        look_at_document(document)
        self.time += 1
        self.makes_by_number[number] = self.new_make(document)

    def take(self, number):
        self.look_at_number(number)
        self.time += 1
        self.makes_by_number.pop(number)

    def stamp(self):
        self.time += 1
        self.kept_by_stamp[self.time] = dict(self.makes_by_number)
        return self.time

    def drop(self, stamp):
        self.look_at_stamp(stamp)
        self.time += 1
        self.kept_by_stamp.pop(stamp)

    def unsealed_piece(self):
        return Piece([(make, self.texts_by_make[make]) for make in self.unsealed])

    def seal(self):
        self.time += 1
        if self.unsealed:
            self.sealed.append(self.unsealed_piece())
            self.unsealed = []

    def pour(self, first, many):
        self.look_at_pieces(first, many)
        self.time += 1
        behind = first + many
        piece = poured([unpacked(kept) for kept in self.sealed[first:behind]], [])
        self.sealed = self.sealed[:first] + [piece] + self.sealed[behind:]

    def needed_makes(self):
        needed = {}
        for makes_by_number in [self.makes_by_number] + list(self.kept_by_stamp.values()):
            for make in makes_by_number.values():
                needed[make] = True
        return needed

    def forget(self, makes):
        for make in makes:
            self.texts_by_make.pop(make)

    def thin(self):
        self.time += 1
        needed = self.needed_makes()
        thinned = []
        for kept in self.sealed:
            piece = unpacked(kept)
            gone = [make for make in piece.makes() if make not in needed]
            self.forget(gone)
            if not gone:
                thinned.append(kept)
            elif len(gone) < len(piece.makes()):
                thinned.append(poured([piece], gone))
        self.sealed = thinned

    def pack(self, at):
        self.look_at_pieces(at, 1)
        self.time += 1
        kept = self.sealed[at]
        if isinstance(kept, Piece):
            self.sealed[at] = piece_bytes(kept)

    def pieces(self):
        told = [unpacked(kept).makes() for kept in self.sealed]
        told.append(list(self.unsealed))
        return told

    def packed(self, at):
        self.look_at_pieces(at, 1)
        kept = self.sealed[at]
        return None if isinstance(kept, Piece) else list(kept)

    def stamps(self):
        return sorted(self.kept_by_stamp)

    def numbers(self):
        return sorted(self.makes_by_number)

    def stand_of(self, makes_by_number):
        pieces = [unpacked(kept) for kept in self.sealed]
        pieces.append(self.unsealed_piece())
        return Stand(pieces, makes_by_number, self.texts_by_make)

    def stand(self, stamp):
        self.look_at_stamp(stamp)
        return self.stand_of(self.kept_by_stamp[stamp])

    def now(self):
        return self.stand_of(self.makes_by_number)
