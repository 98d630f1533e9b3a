"""What came and went: how the answers of a question differ between two stands."""

from findcourt.answers import answers_of, without


def changed(older, newer, question):
    before = answers_of(older, question)
    behind = answers_of(newer, question)
    return (without(behind, before), without(before, behind))
