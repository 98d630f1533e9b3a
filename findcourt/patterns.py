"""Patterns, and the words that they fit."""

from findcourt.errors import NoPattern
from findcourt.words import is_figure, is_small_letter

MOST_PATTERN_SIGNS = 40


def is_pattern_sign(sign):
    return is_small_letter(sign) or is_figure(sign) or sign == "?" or sign == "*"


def look_at_pattern(pattern):
    if not 1 <= len(pattern) <= MOST_PATTERN_SIGNS or not all([is_pattern_sign(sign) for sign in pattern]):
        raise NoPattern("no pattern")


def fits_signs(pattern, word):
    at = 0
    place = 0
    # The last * passed by, and where in the word what it stands for ends. Only this one is ever
    # made longer: what an earlier one might gain, the last one can take in as well.
    star = -1
    star_end = 0
    while place < len(word):
        if at < len(pattern) and pattern[at] == "*":
            star = at
            star_end = place
            at += 1
        elif at < len(pattern) and (pattern[at] == "?" or pattern[at] == word[place]):
            at += 1
            place += 1
        elif star >= 0:
            star_end += 1
            place = star_end
            at = star + 1
        else:
            return False
    return all([sign == "*" for sign in pattern[at:]])


def fits(pattern, word):
    look_at_pattern(pattern)
    return fits_signs(pattern, word)


def words_like(stand, field, pattern):
    look_at_pattern(pattern)
    return [word for word in stand.words(field) if fits_signs(pattern, word)]
