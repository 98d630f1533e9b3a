"""Readings: the texts of a stand, read anew by whoever does not lean on its postings."""

from findcourt.pieces import Piece


class Reading(Piece):
    def __init__(self, stand):
        Piece.__init__(self, [(number, stand.document(number)) for number in stand.documents()])

    def documents(self):
        return self.makes()
