"""Lines that are read sign by sign, from left to right; what does not stand as it should is refused."""

from findcourt.books import read_figures
from findcourt.errors import NoLine, NoText
from findcourt.words import is_figure, is_name, is_small_letter, is_word

# Of deeper lines nothing is promised. They are refused, since how deep calls go differs between Pythons.
MOST_DEEP = 60


class Scan:
    def __init__(self, line):
        self.line = line
        self.at = 0

    def sees(self, text):
        return self.line.startswith(text, self.at)

    def passes(self, text):
        # Goes on behind the text where it stands next, and tells whether it did.
        if not self.sees(text):
            return False
        self.at += len(text)
        return True

    def pass_over(self, text):
        if not self.passes(text):
            raise NoText("another sign than is written there")

    def signs_while(self, is_wanted):
        begin = self.at
        while self.at < len(self.line) and is_wanted(self.line[self.at]):
            self.at += 1
        return self.line[begin:self.at]

    def look_at_end(self):
        if self.at < len(self.line):
            raise NoText("something left behind")


def look_at_depth(deep):
    if deep > MOST_DEEP:
        raise NoText("nested too deep")


def next_name(scan):
    name = scan.signs_while(is_small_letter)
    if not is_name(name):
        raise NoText("no name of a field")
    return name


def next_word(scan):
    # A sign by itself is a word where it may stand in one.
    word = scan.signs_while(is_word)
    if not is_word(word):
        raise NoText("no word")
    return word


def next_number(scan):
    shown = scan.signs_while(is_figure)
    try:
        return read_figures(shown)
    except NoLine:
        raise NoText("no number") from None


def next_list(scan, between, next_one):
    found = [next_one(scan)]
    while scan.passes(between):
        found.append(next_one(scan))
    return found
