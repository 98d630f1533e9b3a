"""Stands: what a house tells of its documents as they were at one time."""

from findcourt.errors import NoDocument
from findcourt.pieces import stretches_of
from findcourt.pouring import gathered
from findcourt.words import bare_words


class Stand:
    def __init__(self, pieces, makes_by_number, texts_by_make):
        numbers_by_make = {}
        self.texts_by_number = {}
        for number in makes_by_number:
            make = makes_by_number[number]
            numbers_by_make[make] = number
            self.texts_by_number[number] = texts_by_make[make]
        # All is gathered here and now, so nothing done to the house later is seen.
        self.numbered = gathered(pieces, numbers_by_make)

    def documents(self):
        return self.numbered.makes()

    def fields(self):
        return self.numbered.fields()

    def words(self, field):
        return self.numbered.words(field)

    def postings(self, field, word):
        return self.numbered.postings(field, word)

    def stretches(self, field, word):
        return stretches_of(self.numbered.postings(field, word))

    def length(self, number, field):
        return self.numbered.length(number, field)

    def document(self, number):
        if number not in self.texts_by_number:
            raise NoDocument("no document of the stand has this number")
        return list(self.texts_by_number[number])

    def text(self, number, field):
        return dict(self.document(number)).get(field, "")

    def words_by_field(self, number):
        told = {}
        for field, text in self.document(number):
            words = bare_words(text)
            if words:
                told[field] = words
        return told
