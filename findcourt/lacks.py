"""What shows that the words of a row, near or chain do not stand as it asks, in one field.

For each place that a no-paper must have an entry for, in order, there is the list of all right
entries: where the question holds from that place on, none.
"""

from findcourt.places import chain_from, times_within, words_by_place


def broken_entries(words, places):
    found = words_by_place(words, places)
    entries = []
    for place in places.get(words[0], []):
        entries.append([(place, k) for k, word in enumerate(words) if found.get(place + k) != word])
    return entries


def thin_entries(words, width, places):
    found = words_by_place(words, places)
    entries = []
    for place in sorted(found):
        entries.append([(place, word) for word in words
                        if times_within(word, width, found, place) < words.count(word)])
    return entries


def late_entries(words, width, places):
    found = words_by_place(words, places)
    chains = [chain_from(words, width, found, place) for place in places.get(words[0], [])]
    return [[chain] if len(chain) < len(words) else [] for chain in chains]


def right_entries(question, places):
    if question[0] == "row":
        return broken_entries(question[2], places)
    if question[0] == "near":
        return thin_entries(question[3], question[2], places)
    return late_entries(question[3], question[2], places)
