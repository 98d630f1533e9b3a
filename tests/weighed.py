"""Worths, tops and the best ones by the document's words alone, with Python's own fractions."""

from fractions import Fraction

from asked import answers_plainly, leaves_plainly
from helpers import plain_postings, plain_text


def pair(fraction):
    return (fraction.numerator, fraction.denominator)


def times_plainly(documents, number, field, word):
    return plain_text(sorted(documents.items()), number, field).count(word)


def weight_plainly(documents, field, word):
    having = len(plain_postings(sorted(documents.items()), field, word))
    return Fraction(len(documents) + 1, having + 1)


def part_plainly(documents, number, field, word):
    times = times_plainly(documents, number, field, word)
    if times == 0:
        return Fraction(0)
    lengths = {other: len(plain_text([(other, documents[other])], other, field)) for other in documents}
    mean = Fraction(sum(lengths.values()), len(documents))
    return times / (times + Fraction(1, 2) + lengths[number] / (2 * mean))


def share_plainly(documents, number, leaf):
    return weight_plainly(documents, *leaf) * part_plainly(documents, number, *leaf)


def worth_plainly(documents, number, question):
    return sum((share_plainly(documents, number, leaf) for leaf in leaves_plainly(documents, question)), Fraction(0))


def top_plainly(documents, field, word):
    return max([share_plainly(documents, number, (field, word)) for number in documents], default=Fraction(0))


def best_plainly(documents, question, many):
    entries = [(number, worth_plainly(documents, number, question))
               for number in answers_plainly(documents, question)]
    ordered = sorted(entries, key=lambda entry: (-entry[1], entry[0]))
    return [(number, pair(worth)) for number, worth in ordered[:many]]
