"""Pieces: the words of some makes, by field and word."""

from findcourt.errors import NoMake
from findcourt.places import places_by_word
from findcourt.words import bare_words, look_at_document

STRETCH_MAKES = 4


def is_whole_number(value):
    # A truth is an int for Python, but no whole number here.
    return isinstance(value, int) and not isinstance(value, bool)


def look_at_makes(makes):
    # With -1 ahead of the first make, a make below 0 is one that does not rise.
    ahead = -1
    for place, pair in enumerate(makes):
        make = pair[0]
        if not is_whole_number(make) or make <= ahead:
            raise NoMake(place)
        look_at_document(pair[1])
        ahead = make


def add_postings(by_word, make, words):
    places = places_by_word(words)
    for word in places:
        by_word.setdefault(word, []).append((make, places[word]))


class Piece:
    def __init__(self, makes):
        look_at_makes(makes)
        # Nothing of the list itself is kept: whoever handed it in may change it behind.
        self.own_makes = [make for make, document in makes]
        self.by_field = {}
        self.lengths = {}
        for make, document in makes:
            for field, text in document:
                words = bare_words(text)
                # A field without words is to be left out of fields().
                if words:
                    self.lengths[(make, field)] = len(words)
                    add_postings(self.by_field.setdefault(field, {}), make, words)

    def makes(self):
        return list(self.own_makes)

    def fields(self):
        return sorted(self.by_field)

    def words(self, field):
        return sorted(self.by_field.get(field, {}))

    def postings(self, field, word):
        kept = self.by_field.get(field, {}).get(word, [])
        # The lists of places are copied too: the asker may change them.
        return [(make, list(places)) for make, places in kept]

    def length(self, make, field):
        return self.lengths.get((make, field), 0)


def piece_of_parts(makes, by_field, lengths):
    # For whoever has the postings and no documents. The parts are handed over, not copied.
    piece = Piece([])
    piece.own_makes = makes
    piece.by_field = by_field
    piece.lengths = lengths
    return piece


def stretch_of(postings):
    most = max([len(places) for make, places in postings])
    return (postings[0][0], postings[-1][0], most)


def stretches_of(postings):
    stretches = []
    for begin in range(0, len(postings), STRETCH_MAKES):
        stretches.append(stretch_of(postings[begin:begin + STRETCH_MAKES]))
    return stretches
