"""The judge: lets right papers by and no other ones, by the texts and the question alone."""

from findcourt.asks import fields_meant, leaves_of
from findcourt.fractions import is_less, sum_of
from findcourt.lacks import right_entries
from findcourt.marks import marked
from findcourt.patterns import fits
from findcourt.places import places_by_field
from findcourt.readings import Reading
from findcourt.worths import Scale, comes_ahead

# The first text of a paper and how many things it has, by the question's first text.
YES_FORMS = {
    "word": ("at", 3),
    "like": ("fits", 4),
    "row": ("from", 3),
    "near": ("places", 3),
    "chain": ("places", 3),
    "both": ("all", 2),
    "one": ("this", 3),
    "not": ("no", 2),
}
NO_FORMS = {
    "word": ("lacks", 1),
    "like": ("lacks", 1),
    "row": ("broken", 2),
    "near": ("thin", 2),
    "chain": ("late", 2),
    "both": ("fails", 3),
    "one": ("none", 2),
    "not": ("yes", 2),
}


def has_form(paper, form):
    return paper[0] == form[0] and len(paper) == form[1]


def rises(row):
    return all([one < other for one, other in zip(row, row[1:])])


def stand_so(words, begin, places):
    return all([begin + k in places.get(word, []) for k, word in enumerate(words)])


def stand_at(words, chosen, places):
    return len(chosen) == len(words) and all([place in places.get(word, []) for place, word in zip(chosen, words)])


def shows(question, places, paper):
    if question[0] == "word":
        return paper[2] in places.get(question[2], [])
    if question[0] == "like":
        return paper[3] in places.get(paper[2], []) and fits(question[2], paper[2])
    if question[0] == "row":
        return stand_so(question[2], paper[2], places)
    chosen = paper[2]
    in_order = chosen if question[0] == "chain" else sorted(chosen)
    return stand_at(question[3], chosen, places) and rises(in_order) and in_order[-1] - in_order[0] < question[2]


def is_one_of_each(entries, choices):
    return len(entries) == len(choices) and all([entry in right for entry, right in zip(entries, choices)])


def is_lacking(question, places):
    if question[0] == "word":
        return question[2] not in places
    return not any([fits(question[2], word) for word in places])


def shows_lack(question, places, paper):
    fields = fields_meant(question, sorted(places))
    if question[0] in ("word", "like"):
        return all([is_lacking(question, places.get(field, {})) for field in fields])
    if [row[0] for row in paper[1]] != fields:
        return False
    return all([is_one_of_each(entries, right_entries(question, places.get(field, {}))) for field, entries in paper[1]])


def is_right(places, question, told, paper):
    kind = question[0]
    if not has_form(paper, YES_FORMS[kind] if told else NO_FORMS[kind]):
        return False
    if kind == "not":
        return is_right(places, question[1], not told, paper[1])
    if kind in ("both", "one"):
        # All of both must hold for a yes, all of one fail for a no; else a single one is enough.
        if told == (kind == "both"):
            return are_right(places, question[1], told, paper[1])
        k = paper[1]
        return 0 <= k < len(question[1]) and is_right(places, question[1][k], told, paper[2])
    if not told:
        return shows_lack(question, places, paper)
    field = paper[1]
    return field in fields_meant(question, places) and shows(question, places.get(field, {}), paper)


def are_right(places, questions, told, papers):
    if len(papers) != len(questions):
        return False
    return all([is_right(places, question, told, paper) for question, paper in zip(questions, papers)])


def judge_paper(stand, document, question, told, paper):
    return is_right(places_by_field(stand.words_by_field(document)), question, told, paper)


def is_told_right(stand, question, scale, told):
    there = marked(stand.documents())
    if not all([entry[0] in there for entry in told]):
        return False
    # Strictly in order, so no document is told twice.
    if not all([comes_ahead(one, other) for one, other in zip(told, told[1:])]):
        return False
    return all([worth == scale.worth(number) and judge_paper(stand, number, question, True, paper)
                for number, worth, paper in told])


def is_weak_right(scale, weak, worth):
    if not rises(weak) or not all([leaf in scale.times for leaf in weak]):
        return False
    return is_less(sum_of([scale.top(leaf) for leaf in weak]), worth)


def is_entry_right(stand, question, scale, last, entry):
    # The last told one is None where fewer are told than asked for: then no answer is left.
    number = entry[0]
    if isinstance(entry[1][0], str):
        return judge_paper(stand, number, question, False, entry[1])
    return last is not None and entry[1] == scale.worth(number) and comes_ahead(last, entry)


def judge_best(stand, question, many, paper):
    told = paper[0]
    weak = paper[1]
    reading = Reading(stand)
    scale = Scale(reading, leaves_of(reading, question))
    if len(told) > many or not is_told_right(stand, question, scale, told):
        return False
    last = told[-1] if told and len(told) == many else None
    if weak and (last is None or not is_weak_right(scale, weak, last[1])):
        return False
    is_told = marked([entry[0] for entry in told])
    left = [number for number in scale.strong_numbers(weak) if number not in is_told]
    if [entry[0] for entry in paper[2]] != left:
        return False
    return all([is_entry_right(stand, question, scale, last, entry) for entry in paper[2]])
