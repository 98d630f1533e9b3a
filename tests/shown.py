"""Which papers are right, by the document's words alone, and papers with one thing altered."""

from fractions import Fraction

from asked import (choices_of_places, fields_plainly, fits_plainly, holds_plainly, leaves_plainly)
from helpers import FAR
from weighed import pair, times_plainly, top_plainly, worth_plainly

FIRST_TEXTS = ["at", "fits", "from", "places", "all", "this", "no",
               "lacks", "broken", "thin", "late", "fails", "none", "yes"]
NO_ROWS = {"row": "broken", "near": "thin", "chain": "late"}
OTHERS = [("at", "a", 0), ("fits", "a", "x", 0), ("from", "a", 0), ("places", "a", [0]), ("places", "a", []),
          ("all", []), ("this", 0, ("at", "a", 0)), ("no", ("lacks",)), ("lacks",), ("broken", []), ("thin", []),
          ("late", []), ("broken", [("a", [])]), ("thin", [("a", [])]), ("late", [("a", [])]),
          ("fails", 0, ("lacks",)), ("none", []), ("yes", ("at", "a", 0))]


def meant(fields, question):
    return sorted(fields) if question[1] == "*" else [question[1]]


def yes_leaf_papers(fields, question):
    """All right yes-papers for a question with a field in it."""
    papers = []
    for field in meant(fields, question):
        words = fields.get(field, [])
        for place, word in enumerate(words):
            if question[0] == "word" and word == question[2]:
                papers.append(("at", field, place))
            if question[0] == "like" and fits_plainly(question[2], word):
                papers.append(("fits", field, word, place))
            if question[0] == "row" and words[place:place + len(question[2])] == question[2]:
                papers.append(("from", field, place))
        if question[0] in ("near", "chain"):
            for chosen in choices_of_places(words, question[3]):
                unlike = len(set(chosen)) == len(chosen)
                in_order = question[0] == "near" or sorted(chosen) == list(chosen)
                if unlike and in_order and max(chosen) - min(chosen) < question[2]:
                    papers.append(("places", field, list(chosen)))
    return papers


def broken_plainly(words, asked):
    return [[(place, k) for k in range(len(asked)) if words[place + k:place + k + 1] != [asked[k]]]
            for place, word in enumerate(words) if word == asked[0]]


def thin_plainly(words, asked, width):
    return [[(place, word) for word in sorted(set(asked))
             if words[place:place + width].count(word) < asked.count(word)]
            for place, here in enumerate(words) if here in asked]


def late_plainly(words, asked, width):
    entries = []
    for first, word in enumerate(words):
        if word == asked[0]:
            chain = [first]
            for following in asked[1:]:
                behind = words[chain[-1] + 1:first + width]
                if following not in behind:
                    break
                chain.append(chain[-1] + 1 + behind.index(following))
            entries.append([chain] if len(chain) < len(asked) else [])
    return entries


def no_choices(fields, question):
    """For each field meant, and each place that an entry must stand for, the list of all right entries."""
    by_field = []
    for field in meant(fields, question):
        words = fields.get(field, [])
        if question[0] == "row":
            choices = broken_plainly(words, question[2])
        elif question[0] == "near":
            choices = thin_plainly(words, question[3], question[2])
        else:
            choices = late_plainly(words, question[3], question[2])
        by_field.append((field, choices))
    return by_field


def some_no_papers(chance, fields, question, many):
    """Some right no-papers for a question with a field in it that does not hold."""
    if question[0] in ("word", "like"):
        return [("lacks",)]
    by_field = no_choices(fields, question)
    return [(NO_ROWS[question[0]], [(field, [chance.choice(right) for right in choices]) for field, choices in by_field])
            for at in range(many)]


def is_right_no_leaf_paper(fields, question, paper):
    if question[0] in ("word", "like"):
        return paper == ("lacks",) and not holds_plainly(fields, question)
    by_field = no_choices(fields, question)
    if paper[0] != NO_ROWS[question[0]] or [row[0] for row in paper[1]] != [field for field, choices in by_field]:
        return False
    for (field, entries), (same, choices) in zip(paper[1], by_field):
        if len(entries) != len(choices) or not all(entry in right for entry, right in zip(entries, choices)):
            return False
    return True


def is_right_plainly(fields, question, told, paper):
    kind = question[0]
    if kind == "not":
        return paper[0] == ("no" if told else "yes") and is_right_plainly(fields, question[1], not told, paper[1])
    if kind in ("both", "one"):
        each, picked = (("all", "fails") if kind == "both" else ("none", "this"))
        if told == (kind == "both"):
            return (paper[0] == each and len(paper[1]) == len(question[1])
                    and all(is_right_plainly(fields, part, told, within)
                            for part, within in zip(question[1], paper[1])))
        return (paper[0] == picked and paper[1] in range(len(question[1]))
                and is_right_plainly(fields, question[1][paper[1]], told, paper[2]))
    return paper in yes_leaf_papers(fields, question) if told else is_right_no_leaf_paper(fields, question, paper)


def alterations(thing):
    """All that comes of altering one thing in a paper, or of putting another paper in a paper's place."""
    if isinstance(thing, int):
        yield from (thing + 1, thing - 1, thing + 2, -1 - thing, FAR, -FAR)
    elif isinstance(thing, str):
        yield from (thing + "x", "q", "x", "y", "a", "b", "*", "", "X y")
    elif isinstance(thing, list):
        for at, part in enumerate(thing):
            yield thing[:at] + thing[at + 1:]
            yield thing[:at] + [part] + thing[at:]
            for other in alterations(part):
                yield thing[:at] + [other] + thing[at + 1:]
        yield thing[::-1]
        yield []
    else:
        is_paper = len(thing) > 0 and thing[0] in FIRST_TEXTS
        for at in range(is_paper, len(thing)):
            for other in alterations(thing[at]):
                yield thing[:at] + (other,) + thing[at + 1:]
        if is_paper:
            yield from OTHERS


def is_best_right_plainly(documents, question, many, paper):
    """Point 36, sentence by sentence."""
    told, weak, rest = paper
    fields = {number: fields_plainly(documents[number]) for number in documents}
    leaves = leaves_plainly(documents, question)
    numbers = [entry[0] for entry in told]
    if not all(entry[0] in documents for entry in told + rest) or len(set(numbers)) != len(numbers):
        return False
    worths = {number: worth_plainly(documents, number, question) for number in documents}
    if sorted(numbers, key=lambda number: (-worths[number], number)) != numbers or len(told) > many:
        return False
    if sorted(set(weak)) != weak or not set(weak) <= set(leaves):
        return False
    for number, worth, yes_paper in told:
        if worth != pair(worths[number]) or not is_right_plainly(fields[number], question, True, yes_paper):
            return False
    strong = [leaf for leaf in leaves if leaf not in weak]
    needed = [number for number in sorted(documents) if number not in numbers and
              (not weak or any(times_plainly(documents, number, *leaf) for leaf in strong))]
    if [entry[0] for entry in rest] != needed:
        return False
    last = numbers[-1] if len(numbers) == many else None
    for number, shown in rest:
        if isinstance(shown[0], str):
            if not is_right_plainly(fields[number], question, False, shown):
                return False
        elif last is None or shown != pair(worths[number]) or (-worths[number], number) < (-worths[last], last):
            return False
    if weak:
        return last is not None and sum((top_plainly(documents, *leaf) for leaf in weak), Fraction(0)) < worths[last]
    return True
