"""Books: deeds as lines of text, and the house to which they are done."""

from findcourt.errors import NoField, NoLine
from findcourt.house import House
from findcourt.words import is_figure, is_text_sign, look_at_document

MOST_FIGURES = 60
NO_FIELDS = "none"
# What is handed in with each deed, in order.
DEEDS = {
    "put": ("fields",),
    "change": ("number", "fields"),
    "take": ("number",),
    "stamp": (),
    "drop": ("number",),
    "seal": (),
    "pour": ("number", "number"),
    "thin": (),
    "pack": ("number",),
}


def show_field(field, text):
    doubled = text.replace("'", "''")
    return f"{field}:'{doubled}'"


def show_fields(document):
    look_at_document(document)
    if not document:
        return NO_FIELDS
    return " ".join([show_field(field, text) for field, text in document])


def show_deed(deed):
    shown = [deed[0]]
    for kind, part in zip(DEEDS[deed[0]], deed[1:]):
        shown.append(show_fields(part) if kind == "fields" else str(part))
    return " ".join(shown)


def read_figures(shown):
    if not 1 <= len(shown) <= MOST_FIGURES or not all([is_figure(sign) for sign in shown]):
        raise NoLine("no number, or one of too many figures")
    if len(shown) > 1 and shown[0] == "0":
        raise NoLine("a number with a first 0")
    return int(shown)


def end_of_text(shown, begin):
    end = shown.find("'", begin)
    while end >= 0 and shown[end + 1:end + 2] == "'":
        end = shown.find("'", end + 2)
    if end < 0:
        raise NoLine("a text without its last sign '")
    return end


def read_text_signs(shown):
    if not all([is_text_sign(sign) for sign in shown]):
        raise NoLine("a sign that no text has")
    return shown.replace("''", "'")


def read_pairs(shown):
    pairs = []
    at = 0
    # A blank at the very end leaves the place behind it to be read, where there is no field.
    while at <= len(shown):
        colon = shown.find(":'", at)
        if colon < 0:
            raise NoLine("no field with a text")
        end = end_of_text(shown, colon + 2)
        pairs.append((shown[at:colon], read_text_signs(shown[colon + 2:end])))
        if end + 1 < len(shown) and shown[end + 1] != " ":
            raise NoLine("no blank between two fields")
        at = end + 2
    return pairs


def read_fields(shown):
    if shown == NO_FIELDS:
        return []
    document = read_pairs(shown)
    try:
        look_at_document(document)
    except NoField:
        raise NoLine("fields that no document has") from None
    return document


def read_deed(line):
    name = line.split(" ")[0]
    if name not in DEEDS:
        raise NoLine("no deed's name")
    kinds = DEEDS[name]
    # Texts have blanks too, so no more is parted than there are things behind the name.
    shown = line.split(" ", len(kinds))
    if shown[0] != name or len(shown) <= len(kinds):
        raise NoLine("too little or too much behind the deed's name")
    deed = [name]
    for kind, part in zip(kinds, shown[1:]):
        deed.append(read_fields(part) if kind == "fields" else read_figures(part))
    return tuple(deed)


def do_deed(house, deed):
    name = deed[0]
    if name == "put":
        return house.put(deed[1])
    if name == "change":
        return house.change(deed[1], deed[2])
    if name == "take":
        return house.take(deed[1])
    if name == "stamp":
        return house.stamp()
    if name == "drop":
        return house.drop(deed[1])
    if name == "seal":
        return house.seal()
    if name == "pour":
        return house.pour(deed[1], deed[2])
    if name == "thin":
        return house.thin()
    return house.pack(deed[1])


def house_of(lines):
    house = House()
    answers = []
    for line in lines:
        answers.append(do_deed(house, read_deed(line)))
    return (house, answers)
