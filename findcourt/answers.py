"""Answers told by the postings alone, without a look at any text."""

from findcourt.asks import fields_meant, places_chosen
from findcourt.marks import marked
from findcourt.patterns import words_like


def all_of(lists):
    found = {}
    for numbers in lists:
        found.update(marked(numbers))
    return sorted(found)


def common_to(numbers, lists):
    left = numbers
    for others in lists:
        found = marked(others)
        left = [number for number in left if number in found]
    return left


def without(numbers, others):
    found = marked(others)
    return [number for number in numbers if number not in found]


def having(stand, field, word):
    return [number for number, places in stand.postings(field, word)]


def places_by_number(stand, field, words):
    found = {}
    for word in words:
        for number, places in stand.postings(field, word):
            found.setdefault(number, {})[word] = places
    return found


def answers_in(stand, field, question):
    if question[0] == "word":
        return having(stand, field, question[2])
    if question[0] == "like":
        return all_of([having(stand, field, word) for word in words_like(stand, field, question[2])])
    found = places_by_number(stand, field, question[-1])
    return [number for number in found if places_chosen(question, found[number]) is not None]


def answers_of(stand, question):
    if question[0] == "both":
        return common_to(stand.documents(), [answers_of(stand, part) for part in question[1]])
    if question[0] == "one":
        return all_of([answers_of(stand, part) for part in question[1]])
    if question[0] == "not":
        return without(stand.documents(), answers_of(stand, question[1]))
    return all_of([answers_in(stand, field, question) for field in fields_meant(question, stand.fields())])
