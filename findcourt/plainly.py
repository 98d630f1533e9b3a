"""Answers told plainly: by going through the words of every document."""

from findcourt.asks import fields_meant, places_chosen
from findcourt.patterns import fits
from findcourt.places import places_by_word


def holds_in(words, question):
    if question[0] == "word":
        return question[2] in words
    if question[0] == "like":
        return any([fits(question[2], word) for word in words])
    return places_chosen(question, places_by_word(words)) is not None


def holds(fields, question):
    if question[0] == "both":
        return all([holds(fields, part) for part in question[1]])
    if question[0] == "one":
        return any([holds(fields, part) for part in question[1]])
    if question[0] == "not":
        return not holds(fields, question[1])
    return any([holds_in(fields.get(field, []), question) for field in fields_meant(question, fields)])


def plain_answers(stand, question):
    return [number for number in stand.documents() if holds(stand.words_by_field(number), question)]
