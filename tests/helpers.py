"""What several tests need: plain looking, changing what was told, and a house kept plainly."""

import contextlib
import copy
import re
import sys

FAR = 10 ** 59

# From the blank to ~, but the sign that no text has.
SIGNS = [chr(code) for code in range(32, 127) if chr(code) != "%"]


@contextlib.contextmanager
def at_most_calls(many):
    """Within it, calls go at most so much deeper than where it stands."""
    frame, depth, before = sys._getframe(), 0, sys.getrecursionlimit()
    while frame is not None:
        frame, depth = frame.f_back, depth + 1
    sys.setrecursionlimit(depth + many)
    try:
        yield
    finally:
        sys.setrecursionlimit(before)


def change_all(told):
    """Changes each list and dict in what was told, all the way down."""
    for part in told.values() if isinstance(told, dict) else told:
        if isinstance(part, (list, tuple, dict)):
            change_all(part)
    if isinstance(told, list):
        told.append("changed")
        told.reverse()
    if isinstance(told, dict):
        for key in list(told)[:1]:
            told.pop(key)
        told["changed"] = "changed"


def all_told(piece):
    """What a piece tells, with some fields, words and makes that it has not."""
    told = [piece.makes(), piece.fields()]
    for field in piece.fields() + ["other"]:
        told.append((field, piece.words(field)))
        for word in piece.words(field) + ["other"]:
            told.append((field, word, piece.postings(field, word)))
        for make in piece.makes() + [1, FAR + 1]:
            told.append((field, make, piece.length(make, field)))
    return told


def some_document(chance, fields="abc", signs="xXyz0 -", most=25):
    document = []
    for field in fields:
        if chance.randrange(3):
            document.append((field, "".join(chance.choices(signs, k=chance.randrange(most)))))
    return document


def some_makes(chance):
    return [(make, some_document(chance)) for make in sorted(chance.sample(range(40), chance.randrange(12)))]


def plain_text(makes, make, field):
    """The words of this field of this make, one behind the other."""
    text = dict(dict(makes).get(make, [])).get(field, "")
    return re.findall("[a-z0-9]+", text.lower())


def plain_words(makes, field):
    return sorted({word for make, document in makes for word in plain_text(makes, make, field)})


def plain_fields(makes):
    fields = {field for make, document in makes for field, text in document}
    return sorted(field for field in fields if plain_words(makes, field))


def plain_postings(makes, field, word):
    found = []
    for make, document in makes:
        places = [place for place, other in enumerate(plain_text(makes, make, field)) if other == word]
        if places:
            found.append((make, places))
    return found


def plain_stretches(postings):
    told = []
    for begin in range(0, len(postings), 4):
        four = postings[begin:begin + 4]
        told.append((four[0][0], four[-1][0], max(len(places) for make, places in four)))
    return told


def stand_told(stand):
    """All that a stand tells, with some fields, words and numbers that it has not."""
    told = {"documents": stand.documents(), "fields": stand.fields()}
    fields = stand.fields() + ["other", ""]
    for field in fields:
        told["words", field] = stand.words(field)
        for word in stand.words(field) + ["other", ""]:
            told["postings", field, word] = stand.postings(field, word)
            told["stretches", field, word] = stand.stretches(field, word)
        for number in stand.documents() + [-1, FAR]:
            told["length", number, field] = stand.length(number, field)
    for number in stand.documents():
        told["document", number] = stand.document(number)
        told["by field", number] = stand.words_by_field(number)
        for field in fields + [field for field, text in stand.document(number)]:
            told["text", number, field] = stand.text(number, field)
    return told


def plain_stand(documents):
    """The same, of a dict from numbers to documents, by looking through the texts."""
    makes = sorted(documents.items())
    fields = plain_fields(makes)
    told = {"documents": [number for number, document in makes], "fields": fields}
    fields = fields + ["other", ""]
    for field in fields:
        told["words", field] = plain_words(makes, field)
        for word in plain_words(makes, field) + ["other", ""]:
            postings = plain_postings(makes, field, word)
            told["postings", field, word] = postings
            told["stretches", field, word] = plain_stretches(postings)
        for number in list(documents) + [-1, FAR]:
            told["length", number, field] = len(plain_text(makes, number, field))
    for number, document in makes:
        told["document", number] = copy.deepcopy(document)
        told["by field", number] = {field: plain_text(makes, number, field) for field, text in document
                                    if plain_text(makes, number, field)}
        for field in fields + [field for field, text in document]:
            told["text", number, field] = dict(document).get(field, "")
    return told


class PlainHouse:
    """A house that keeps every text of every stamp, and of its pieces the makes alone."""

    def __init__(self):
        self.time = 0
        self.given = 0
        self.texts = []
        self.live = {}
        self.kept = {}
        self.sealed = []
        self.packs = []
        self.unsealed = []

    def document_made(self, number, document):
        self.unsealed.append(len(self.texts))
        self.live[number] = len(self.texts)
        self.texts.append(copy.deepcopy(document))

    def put(self, document):
        self.time += 1
        self.given += 1
        self.document_made(self.given - 1, document)
        return self.given - 1

    def change(self, number, document):
        self.time += 1
        self.document_made(number, document)

    def take(self, number):
        self.time += 1
        del self.live[number]

    def stamp(self):
        self.time += 1
        self.kept[self.time] = dict(self.live)
        return self.time

    def drop(self, stamp):
        self.time += 1
        del self.kept[stamp]

    def seal(self):
        self.time += 1
        if self.unsealed:
            self.sealed.append(self.unsealed)
            self.packs.append(False)
            self.unsealed = []

    def pour(self, first, many):
        self.time += 1
        self.sealed[first:first + many] = [sum(self.sealed[first:first + many], [])]
        self.packs[first:first + many] = [False]

    def thin(self):
        self.time += 1
        needed = {make for live in [self.live, *self.kept.values()] for make in live.values()}
        pairs = []
        for makes, pack in zip(self.sealed, self.packs):
            left = [make for make in makes if make in needed]
            if left:
                pairs.append((left, pack and left == makes))
        self.sealed = [makes for makes, pack in pairs]
        self.packs = [pack for makes, pack in pairs]

    def pack(self, at):
        self.time += 1
        self.packs[at] = True

    def documents_at(self, stamp):
        live = self.live if stamp is None else self.kept[stamp]
        return {number: self.texts[make] for number, make in live.items()}


def some_deed(chance, plain, made=some_document):
    """A deed that the house as it is does not refuse, as a tuple; documents are made by the function told."""
    numbers, stamps, pieces = sorted(plain.live), sorted(plain.kept), len(plain.sealed)
    choices = ["put", "put", "put", "stamp", "seal", "seal", "thin"]
    choices += ["change", "change", "take"] if numbers else []
    choices += ["drop"] if stamps else []
    choices += ["pour", "pack", "pack"] if pieces else []
    name = chance.choice(choices)
    if name == "put":
        return (name, made(chance))
    if name == "change":
        return (name, chance.choice(numbers), made(chance))
    if name == "take":
        return (name, chance.choice(numbers))
    if name == "drop":
        return (name, chance.choice(stamps))
    if name == "pack":
        return (name, chance.randrange(pieces))
    if name == "pour":
        first = chance.randrange(pieces)
        return (name, first, chance.randint(1, min(3, pieces - first)))
    return (name,)


def do(house, deed):
    return getattr(house, deed[0])(*deed[1:])
