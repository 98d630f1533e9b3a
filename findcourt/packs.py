"""Numbers, postings, texts and pieces as rows of bytes, and read back from them."""

from findcourt.errors import NoBytes
from findcourt.pieces import piece_of_parts
from findcourt.words import NO_SIGN, is_name, is_word

BYTE_PART = 128
LAST_BYTE = 255
FIRST_SIGN = 32
LAST_SIGN = 126
# From FIRST_SIGN to LAST_SIGN; at the place of NO_SIGN, which no text has, a blank stands in.
SIGNS = (" !\"#$ &'()*+,-./0123456789:;<=>?@ABCDEFGHIJKLMNOPQRSTUVWXYZ[\\]^_`"
         "abcdefghijklmnopqrstuvwxyz{|}~")


def number_bytes(number):
    row = []
    rest = number
    while rest >= BYTE_PART:
        row.append(rest % BYTE_PART + BYTE_PART)
        rest = rest // BYTE_PART
    row.append(rest)
    return row


def rising_bytes(numbers):
    row = number_bytes(len(numbers))
    ahead = 0
    for number in numbers:
        row.extend(number_bytes(number - ahead))
        ahead = number
    return row


def postings_bytes(postings):
    row = number_bytes(len(postings))
    ahead = 0
    for make, places in postings:
        row.extend(number_bytes(make - ahead))
        row.extend(rising_bytes(places))
        ahead = make
    return row


def text_bytes(text):
    row = number_bytes(len(text))
    row.extend([ord(sign) for sign in text])
    return row


def field_bytes(piece, field):
    row = text_bytes(field)
    for make in piece.makes():
        row.extend(number_bytes(piece.length(make, field)))
    words = piece.words(field)
    row.extend(number_bytes(len(words)))
    for word in words:
        row.extend(text_bytes(word))
        row.extend(postings_bytes(piece.postings(field, word)))
    return row


def piece_bytes(piece):
    row = rising_bytes(piece.makes())
    fields = piece.fields()
    row.extend(number_bytes(len(fields)))
    for field in fields:
        row.extend(field_bytes(piece, field))
    return row


def sign_of_byte(byte):
    if byte < FIRST_SIGN or byte > LAST_SIGN or byte == NO_SIGN:
        raise NoBytes("a byte that is no sign's")
    return SIGNS[byte - FIRST_SIGN]


# Each next_ method takes what it tells from the row, so that the reader stands behind it.
# How many things there are is what the row says and may be far more than it holds: so the
# things are counted as they are read, and nothing is made ready for them.
class Reader:
    def __init__(self, row):
        self.row = row
        self.at = 0

    def next_byte(self):
        if self.at >= len(self.row):
            raise NoBytes("the row ends too early")
        byte = self.row[self.at]
        if byte < 0 or byte > LAST_BYTE:
            raise NoBytes("a number that is no byte")
        self.at += 1
        return byte

    def next_number(self):
        byte = self.next_byte()
        number = 0
        part = 1
        while byte >= BYTE_PART:
            number += (byte - BYTE_PART) * part
            part *= BYTE_PART
            byte = self.next_byte()
            if byte == 0:
                raise NoBytes("a last byte 0, without which the number would be the same")
        return number + byte * part

    def next_behind(self, numbers):
        # A number kept as its step from the last of these; the first one is kept as it is.
        step = self.next_number()
        if not numbers:
            return step
        if step == 0:
            raise NoBytes("numbers that do not rise")
        return numbers[-1] + step

    def next_rising(self):
        many = self.next_number()
        numbers = []
        while len(numbers) < many:
            numbers.append(self.next_behind(numbers))
        return numbers

    def next_postings(self):
        many = self.next_number()
        makes = []
        found = []
        while len(makes) < many:
            makes.append(self.next_behind(makes))
            places = self.next_rising()
            if not places:
                raise NoBytes("a make without places")
            found.append((makes[-1], places))
        return found

    def next_text(self):
        many = self.next_number()
        signs = []
        while len(signs) < many:
            signs.append(sign_of_byte(self.next_byte()))
        return "".join(signs)

    def look_at_end(self):
        if self.at < len(self.row):
            raise NoBytes("something is left behind")


def read_number(row):
    reader = Reader(row)
    number = reader.next_number()
    reader.look_at_end()
    return number


def read_postings(row):
    reader = Reader(row)
    postings = reader.next_postings()
    reader.look_at_end()
    return postings


def read_text(row):
    reader = Reader(row)
    text = reader.next_text()
    reader.look_at_end()
    return text


def next_word(reader, ahead):
    word = reader.next_text()
    if not is_word(word) or word <= ahead:
        raise NoBytes("a word that is none or does not rise")
    return word


def next_words(reader):
    many = reader.next_number()
    by_word = {}
    word = ""
    while len(by_word) < many:
        word = next_word(reader, word)
        by_word[word] = reader.next_postings()
        if not by_word[word]:
            raise NoBytes("a word without postings")
    if not by_word:
        raise NoBytes("a field without words")
    return by_word


def next_field(reader, ahead):
    field = reader.next_text()
    if not is_name(field) or field <= ahead:
        raise NoBytes("a field that is no name or does not rise")
    return field


def next_lengths(reader, makes):
    lengths = {}
    for make in makes:
        lengths[make] = reader.next_number()
    return lengths


def look_at_places(lengths, by_word):
    taken = {}
    for word in by_word:
        for make, places in by_word[word]:
            for place in places:
                if place >= lengths.get(make, 0) or (make, place) in taken:
                    raise NoBytes("a place that the make has not, or has twice")
                taken[(make, place)] = True
    # All are unlike and within their lengths: so if they are as many, none is missing.
    if len(taken) != sum(lengths.values()):
        raise NoBytes("a place without a word")


def add_lengths(lengths, field, field_lengths):
    for make in field_lengths:
        lengths[(make, field)] = field_lengths[make]


def next_piece(reader):
    makes = reader.next_rising()
    many = reader.next_number()
    by_field = {}
    lengths = {}
    field = ""
    while len(by_field) < many:
        field = next_field(reader, field)
        field_lengths = next_lengths(reader, makes)
        by_field[field] = next_words(reader)
        look_at_places(field_lengths, by_field[field])
        add_lengths(lengths, field, field_lengths)
    return piece_of_parts(makes, by_field, lengths)


def read_piece(row):
    reader = Reader(row)
    piece = next_piece(reader)
    reader.look_at_end()
    return piece
