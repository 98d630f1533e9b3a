"""Places of words, and those that rows, nearness and chains of words ask for.

Where places are handed in, they are a dict from words to the rising lists of their places in
one field of one document; a word that does not stand there may be left out.
"""


def places_by_word(words):
    places = {}
    for place, word in enumerate(words):
        places.setdefault(word, []).append(place)
    return places


def places_by_field(fields):
    # Of a document's words by field.
    found = {}
    for field in fields:
        found[field] = places_by_word(fields[field])
    return found


def words_by_place(words, places):
    found = {}
    for word in words:
        for place in places.get(word, []):
            found[place] = word
    return found


def row_place(words, places):
    # The first place from which on the words stand one behind the other; None where there is none.
    found = words_by_place(words, places)
    for begin in places.get(words[0], []):
        if all([found.get(begin + step) == word for step, word in enumerate(words)]):
            return begin
    return None


def times_within(word, width, found, begin):
    return len([place for place in range(begin, begin + width) if found.get(place) == word])


def near_from(words, width, found, begin):
    # A place has one word alone, so whichever place a word takes, no other word misses it.
    chosen = []
    for word in words:
        free = [place for place in range(begin, begin + width)
                if found.get(place) == word and place not in chosen]
        if not free:
            return None
        chosen.append(free[0])
    return chosen


def near_places(words, width, places):
    # A place for each word, all unlike and within the width; None where there are none.
    found = words_by_place(words, places)
    for begin in sorted(found):
        chosen = near_from(words, width, found, begin)
        if chosen is not None:
            return chosen
    return None


def chain_from(words, width, found, begin):
    # The chain that begins here, as far as it goes: it may have fewer places than there are words.
    # Each word takes the first place it can, since that leaves the next ones the most room.
    chain = [begin]
    for word in words[1:]:
        behind = [place for place in range(chain[-1] + 1, begin + width) if found.get(place) == word]
        if not behind:
            return chain
        chain.append(behind[0])
    return chain


def chain_places(words, width, places):
    # A place for each word, rising and within the width; None where there are none.
    found = words_by_place(words, places)
    for begin in places.get(words[0], []):
        chain = chain_from(words, width, found, begin)
        if len(chain) == len(words):
            return chain
    return None
