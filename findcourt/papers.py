"""Papers: what shows that a question holds of a document or does not, and which ones are the best."""

from findcourt.answers import answers_of
from findcourt.asks import fields_meant, places_chosen
from findcourt.fractions import common_bottom, is_less, tops_over
from findcourt.lacks import right_entries
from findcourt.marks import marked
from findcourt.patterns import fits
from findcourt.places import places_by_field
from findcourt.worths import best_of, scale_of

NO_ROWS = {"row": "broken", "near": "thin", "chain": "late"}


def word_paper(field, places, word):
    return ("at", field, places[word][0]) if word in places else None


def like_paper(field, places, pattern):
    for word in places:
        if fits(pattern, word):
            return ("fits", field, word, places[word][0])
    return None


def yes_paper_in(field, places, question):
    if question[0] == "word":
        return word_paper(field, places, question[2])
    if question[0] == "like":
        return like_paper(field, places, question[2])
    chosen = places_chosen(question, places)
    if chosen is None:
        return None
    return ("from" if question[0] == "row" else "places", field, chosen)


def no_paper_in(fields, places, question):
    if question[0] in ("word", "like"):
        return ("lacks",)
    rows = []
    for field in fields:
        rows.append((field, [entries[0] for entries in right_entries(question, places.get(field, {}))]))
    return (NO_ROWS[question[0]], rows)


def paper_in(places, question):
    fields = fields_meant(question, sorted(places))
    for field in fields:
        paper = yes_paper_in(field, places.get(field, {}), question)
        if paper is not None:
            return (True, paper)
    return (False, no_paper_in(fields, places, question))


def both_paper(told):
    for k, pair in enumerate(told):
        if not pair[0]:
            return (False, ("fails", k, pair[1]))
    return (True, ("all", [pair[1] for pair in told]))


def one_paper(told):
    for k, pair in enumerate(told):
        if pair[0]:
            return (True, ("this", k, pair[1]))
    return (False, ("none", [pair[1] for pair in told]))


def not_paper(told):
    return (False, ("yes", told[1])) if told[0] else (True, ("no", told[1]))


def paper_of(places, question):
    if question[0] == "both":
        return both_paper([paper_of(places, part) for part in question[1]])
    if question[0] == "one":
        return one_paper([paper_of(places, part) for part in question[1]])
    if question[0] == "not":
        return not_paper(paper_of(places, question[1]))
    return paper_in(places, question)


def paper_for(stand, document, question):
    return paper_of(places_by_field(stand.words_by_field(document)), question)


def weak_leaves(scale, worth):
    # As many as the worth bears, those with the least tops first.
    tops = scale.tops()
    bottom = common_bottom(tops)
    weak = []
    total = 0
    for share, leaf in sorted(zip(tops_over(bottom, tops), scale.leaves)):
        total += share
        if is_less((total, bottom), worth):
            weak.append(leaf)
    return sorted(weak)


def rest_of(stand, question, scale, passed):
    is_answer = marked(answers_of(stand, question))
    rest = []
    for number in passed:
        if number in is_answer:
            rest.append((number, scale.worth(number)))
        else:
            rest.append((number, paper_for(stand, number, question)[1]))
    return rest


def best_paper(stand, question, many):
    scale = scale_of(stand, question)
    best = best_of(stand, question, many)
    told = [(number, worth, paper_for(stand, number, question)[1]) for number, worth in best]
    weak = weak_leaves(scale, best[-1][1]) if best and len(best) == many else []
    is_told = marked([number for number, worth in best])
    passed = [number for number in scale.strong_numbers(weak) if number not in is_told]
    return (told, weak, rest_of(stand, question, scale, passed))
