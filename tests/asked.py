"""Questions for tests, and what they come to by the document's words alone."""

import itertools
import re

from findcourt.house import House
from helpers import PlainHouse, do, plain_fields, plain_text, plain_words, some_deed

WORDS = ["x", "y", "z", "xy", "x1", "yy"]
PATTERNS = ["x", "y", "q", "?", "??", "*", "x*", "*y", "?y", "x?", "*1*", "q*", "??*", "*x*y*", "z?"]


def documents_of(*texts):
    """A stand of documents with a text in the field a; of None the document has no fields."""
    return stand_of(*[[] if text is None else [("a", text)] for text in texts])


def stand_of(*documents):
    house = House()
    for document in documents:
        house.put(document)
    return house.now()


def some_text(chance, most=9):
    return " ".join(chance.choices(WORDS, weights=[5, 4, 3, 1, 1, 1], k=chance.randrange(most)))


def word_document(chance):
    """With texts of few words, so that questions of these words often hold."""
    return [(field, some_text(chance)) for field in "abc" if chance.randrange(3)]


def some_history(chance, deeds):
    """A house, and the same one kept plainly, behind so many deeds of all kinds."""
    house, plain = House(), PlainHouse()
    for at in range(deeds):
        deed = some_deed(chance, plain, word_document)
        do(house, deed)
        do(plain, deed)
    return house, plain


def stands_of(house, plain):
    """The stands of now and of each kept stamp, each with its documents by number."""
    stands = [(house.now(), plain.documents_at(None))]
    return stands + [(house.stand(stamp), plain.documents_at(stamp)) for stamp in house.stamps()]


def some_words(chance, most=6):
    return chance.choices(WORDS + ["q"], weights=[8, 6, 4, 1, 1, 1, 1], k=chance.randint(1, most))


def some_leaf_question(chance):
    field = chance.choice(["a", "a", "b", "c", "d", "*", "*"])
    kind = chance.choice(["word", "like", "row", "near", "chain"])
    if kind == "word":
        return (kind, field, chance.choice(WORDS + ["q"]))
    if kind == "like":
        return (kind, field, chance.choice(PATTERNS))
    if kind == "row":
        return (kind, field, some_words(chance, 3))
    return (kind, field, chance.choice([1, 2, 3, 4, 6, 20]), some_words(chance, 4))


def some_question(chance, deep=3):
    if deep == 1 or chance.randrange(3) == 0:
        return some_leaf_question(chance)
    kind = chance.choice(["both", "one", "not"])
    if kind == "not":
        return (kind, some_question(chance, deep - 1))
    return (kind, [some_question(chance, deep - 1) for at in range(chance.choice([0, 1, 2, 2, 3]))])


def fits_plainly(pattern, word):
    return re.fullmatch(pattern.replace("?", ".").replace("*", ".*"), word) is not None


def choices_of_places(words, asked):
    """All ways to choose a place for each of the words asked for."""
    return itertools.product(*[[place for place, word in enumerate(words) if word == one] for one in asked])


def holds_plainly_in(words, question):
    kind = question[0]
    if kind == "word":
        return question[2] in words
    if kind == "like":
        return any(fits_plainly(question[2], word) for word in words)
    asked = question[-1]
    if kind == "row":
        return any(words[begin:begin + len(asked)] == asked for begin in range(len(words)))
    for places in choices_of_places(words, asked):
        unlike = len(set(places)) == len(places)
        rising = list(places) == sorted(places)
        if unlike and max(places) - min(places) < question[2] and (kind == "near" or rising):
            return True
    return False


def holds_plainly(fields, question):
    kind = question[0]
    if kind == "both":
        return all(holds_plainly(fields, part) for part in question[1])
    if kind == "one":
        return any(holds_plainly(fields, part) for part in question[1])
    if kind == "not":
        return not holds_plainly(fields, question[1])
    if question[1] == "*":
        return any(holds_plainly_in(words, question) for words in fields.values())
    return holds_plainly_in(fields.get(question[1], []), question)


def fields_plainly(document):
    """The words of a document by field, for the fields in which it has words."""
    words = {field: plain_text([(0, document)], 0, field) for field, text in document}
    return {field: words[field] for field in words if words[field]}


def answers_plainly(documents, question):
    return [number for number in sorted(documents) if holds_plainly(fields_plainly(documents[number]), question)]


def leaves_plainly(documents, question):
    makes = sorted(documents.items())
    kind = question[0]
    if kind == "not":
        return []
    if kind in ("both", "one"):
        found = [leaf for part in question[1] for leaf in leaves_plainly(documents, part)]
    else:
        fields = plain_fields(makes) if question[1] == "*" else [question[1]]
        if kind == "word":
            found = [(field, question[2]) for field in fields]
        elif kind == "like":
            found = [(field, word) for field in fields for word in plain_words(makes, field)
                     if fits_plainly(question[2], word)]
        else:
            found = [(field, word) for field in fields for word in question[-1]]
    return sorted(set(found))
