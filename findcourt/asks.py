"""Questions: the fields and words that they ask for, and their leaves in a stand."""

from findcourt.patterns import words_like
from findcourt.places import chain_places, near_places, row_place

ANY_FIELD = "*"


def fields_meant(question, fields):
    # Of a question with a field in it; the fields handed in are those that * stands for.
    return list(fields) if question[1] == ANY_FIELD else [question[1]]


def places_chosen(question, places):
    # Where the words of a row, near or chain stand as it asks: of a row the first place alone,
    # else a place for each word. None where they do not.
    if question[0] == "row":
        return row_place(question[2], places)
    if question[0] == "near":
        return near_places(question[3], question[2], places)
    return chain_places(question[3], question[2], places)


def words_meant(stand, field, question):
    if question[0] == "word":
        return [question[2]]
    if question[0] == "like":
        return words_like(stand, field, question[2])
    return question[-1]


def gather_leaves(stand, question, found):
    if question[0] == "not":
        return
    if question[0] in ("both", "one"):
        for part in question[1]:
            gather_leaves(stand, part, found)
        return
    for field in fields_meant(question, stand.fields()):
        for word in words_meant(stand, field, question):
            found[(field, word)] = True


def leaves_of(stand, question):
    found = {}
    gather_leaves(stand, question, found)
    return sorted(found)
