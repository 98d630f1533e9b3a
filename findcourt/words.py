"""Documents, and the words of their texts."""

from findcourt.errors import NoField

MOST_NAME_SIGNS = 12
# The sign of the hundredth part, by its number in the row of signs: no text has it.
NO_SIGN = 37


def is_small_letter(sign):
    return "a" <= sign <= "z"


def is_figure(sign):
    return "0" <= sign <= "9"


def is_word_sign(sign):
    # Written out, since isalnum also takes signs that are neither a to z nor 0 to 9.
    return is_small_letter(sign) or "A" <= sign <= "Z" or is_figure(sign)


def is_word(text):
    # As words are told: great letters have been turned into small ones.
    return len(text) > 0 and all([is_small_letter(sign) or is_figure(sign) for sign in text])


def is_text_sign(sign):
    return " " <= sign <= "~" and ord(sign) != NO_SIGN


def is_name(text):
    return 1 <= len(text) <= MOST_NAME_SIGNS and all([is_small_letter(sign) for sign in text])


def look_at_document(document):
    # Each name comes behind the empty text, so the first field needs no case of its own.
    ahead = ""
    for place, pair in enumerate(document):
        field = pair[0]
        if not is_name(field) or field <= ahead:
            raise NoField(place)
        ahead = field


def end_of_word(text, begin):
    end = begin
    while end < len(text) and is_word_sign(text[end]):
        end += 1
    return end


def words_of(text):
    found = []
    begin = 0
    while begin < len(text):
        end = end_of_word(text, begin)
        if end > begin:
            found.append((text[begin:end].lower(), begin, end))
        # The sign at end is no word's, so the next word begins behind it at the earliest.
        begin = end + 1
    return found


def bare_words(text):
    return [entry[0] for entry in words_of(text)]
