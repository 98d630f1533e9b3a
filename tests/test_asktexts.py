"""Points 2, 39 and 40: questions as text."""

import copy
import random
import re
import unittest

from asked import some_leaf_question, some_question
from findcourt.asktexts import read_question, show_question
from findcourt.errors import NoText
from helpers import SIGNS, at_most_calls, change_all

WORD = "[a-z0-9]{1,40}"
WORDS = f"{WORD}(?: {WORD}){{0,5}}"
WIDTH = "(?:[1-9]|1[0-9]|20)"
LEAF = (rf'(?:\*|[a-z]{{1,12}}):(?:"{WORDS}"|~{WORD}|{WIDTH}<{WORDS}>|{WIDTH}\[{WORDS}\]'
        r'|[a-z0-9?*]{1,40}(?![a-z0-9?*<\[]))')
LONG = "abcdefghijklmnopqrstuvwxyz01234567890123"


def is_written(line):
    """Whether a line is some question's, by putting one sign in the place of each question within."""
    before, line = None, re.sub(LEAF, "\u00a7", line)
    while line != before:
        before, line = line, re.sub("!\u00a7|\\([&|]\\)|\\([&|] \u00a7\\)|\\(\u00a7(?: & \u00a7)+\\)"
                                    "|\\(\u00a7(?: \\| \u00a7)+\\)", "\u00a7", line)
    return line == "\u00a7"


X, Y, Z = ("word", "a", "x"), ("word", "b", "y"), ("like", "*", "z*")
WRITTEN = [
    (("word", "body", "house"), "body:house"),
    (("word", "*", "house"), "*:house"),
    (("word", "a", "7"), "a:7"),
    (("word", "a", "12b"), "a:12b"),
    (("word", "abcdefghijkl", LONG), f"abcdefghijkl:{LONG}"),
    (("like", "body", "h*s?"), "body:h*s?"),
    (("like", "*", "*"), "*:*"),
    (("like", "*", "?"), "*:?"),
    (("like", "a", "1?"), "a:1?"),
    (("like", "body", "house"), "body:~house"),
    (("like", "*", "7"), "*:~7"),
    (("like", "a", "*" * 40), "a:" + "*" * 40),
    (("like", "a", LONG), f"a:~{LONG}"),
    (("row", "body", ["old"]), 'body:"old"'),
    (("row", "*", ["the", "old", "the", "7"]), '*:"the old the 7"'),
    (("row", "a", ["a", "b", "c", "d", "e", LONG]), f'a:"a b c d e {LONG}"'),
    (("near", "body", 1, ["old"]), "body:1<old>"),
    (("near", "body", 9, ["old", "house"]), "body:9<old house>"),
    (("near", "*", 10, ["a", "a", "a", "a", "a", "a"]), "*:10<a a a a a a>"),
    (("near", "a", 20, ["20", "2"]), "a:20<20 2>"),
    (("chain", "body", 1, ["old"]), "body:1[old]"),
    (("chain", "body", 19, ["old", "house"]), "body:19[old house]"),
    (("chain", "*", 20, ["b", "a", "b"]), "*:20[b a b]"),
    (("both", []), "(&)"),
    (("one", []), "(|)"),
    (("both", [X]), "(& a:x)"),
    (("one", [X]), "(| a:x)"),
    (("both", [X, Y]), "(a:x & b:y)"),
    (("one", [X, Y]), "(a:x | b:y)"),
    (("both", [X, Y, Z, X]), "(a:x & b:y & *:z* & a:x)"),
    (("one", [X, Y, Z, X]), "(a:x | b:y | *:z* | a:x)"),
    (("not", X), "!a:x"),
    (("not", ("not", Z)), "!!*:z*"),
    (("not", ("both", [])), "!(&)"),
    (("not", ("one", [X])), "!(| a:x)"),
    (("both", [("both", [])]), "(& (&))"),
    (("one", [("both", []), ("one", [])]), "((&) | (|))"),
    (("both", [("not", X), ("one", [Y, ("not", ("row", "a", ["x", "y"]))])]), '(!a:x & (b:y | !a:"x y"))'),
    (("one", [("both", [X, Y]), ("both", [Y, X])]), "((a:x & b:y) | (b:y & a:x))"),
]


class Written(unittest.TestCase):
    def check(self, question, line=None):
        handed = copy.deepcopy(question)
        shown = show_question(question)
        self.assertIs(type(shown), str)
        if line is not None:
            self.assertEqual(shown, line)
        self.assertTrue(is_written(shown), shown)
        for time in range(2):
            read = read_question(shown)
            self.assertEqual(read, question)
            self.assertEqual(repr(read), repr(question))
            change_all(read)
        self.assertEqual(question, handed)

    def test_each_kind(self):
        for question, line in WRITTEN:
            self.check(question, line)

    def test_not_of_each(self):
        for question, line in WRITTEN:
            self.check(("not", question), "!" + line)
            self.check(("both", [question, X]), f"({line} & a:x)")
            self.check(("one", [Y, question]), f"(b:y | {line})")
            self.check(("both", [question]), f"(& {line})")

    def test_widths(self):
        for width in range(1, 21):
            self.check(("near", "a", width, ["x"]), f"a:{width}<x>")
            self.check(("chain", "a", width, ["x"]), f"a:{width}[x]")

    def test_within_one_another(self):
        for deep in range(1, 12):
            for first in (lambda question: ("not", question), lambda question: ("both", [question]),
                          lambda question: ("one", [Y, question]), lambda question: ("both", [question, Y])):
                question = X
                for at in range(deep - 1):
                    question = first(question)
                self.check(question)

    def test_far_more_than_four_hundred_signs(self):
        self.check(("both", [("row", "abcdefghijkl", [LONG] * 6)] * 29))

    def test_by_chance(self):
        chance = random.Random(39)
        for time in range(300):
            self.check(some_question(chance, chance.randint(1, 6)))


class Read(unittest.TestCase):
    def refused(self, line):
        self.assertFalse(is_written(line), line)
        with self.assertRaises(NoText, msg=line) as caught:
            read_question(line)
        self.assertIs(type(caught.exception), NoText)

    def check(self, line):
        if is_written(line):
            question = read_question(line)
            self.assertEqual(show_question(question), line)
            return True
        self.refused(line)
        return False

    def test_too_little_or_too_much(self):
        for line in ("", " ", "a", ":", "a:", ":x", "*", "*:", "!", "!!", "(", ")", "()", "( )", "&", "|", "a:x b:y",
                     "a:x a:x", "a:x!", "!a:x!", "a:x)", "(a:x", "(a:x))", "((a:x & b:y)", "(&", "&)", "(& a:x",
                     "(&)a:x", "(&)(&)", "a:x(&)", "a:xa:x", "a:x:y", "a::x", "a b:x", "none", "word a x"):
            self.refused(line)

    def test_blanks(self):
        for question, line in WRITTEN:
            for wrong in (" " + line, line + " ", line + "  ", "\t" + line):
                self.refused(wrong)
            for at, sign in enumerate(line):
                if sign == " ":
                    self.refused(line[:at] + " " + line[at:])
                    self.check(line[:at] + line[at + 1:])
        for line in ("a: x", "a :x", "! a:x", "(a:x& b:y)", "(a:x &b:y)", "( a:x & b:y)", "(a:x & b:y )", "( &)", "(& )",
                     "(&a:x)", "(&  a:x)", "(& a:x )", 'a:" x"', 'a:"x "', 'a:"x  y"', "a:2 <x>", "a:2< x>", "a:2<x >",
                     "a:2[x ]", "a:~ x", "(a:x  & b:y)", "(a:x | b:y| c:z)"):
            self.refused(line)

    def test_brackets(self):
        for line in ("(a:x)", "(a:x & b:y | c:z)", "(a:x | b:y & c:z)", "(& a:x & b:y)", "(| a:x | b:y)", "(& a:x | b:y)",
                     "(| )", "(&|)", "(&&)", "(a:x &)", "(& & a:x)", "(a:x & )", "(a:x && b:y)", "[a:x & b:y]",
                     "(a:x , b:y)", "(a:x and b:y)", "a:x & b:y", "(!)", "(& !)", "((&) & (|)", "(a:x & (b:y | c:z)",
                     "a:(x)", "(a:x & b:y))"):
            self.refused(line)

    def test_fields(self):
        for field in ("", "A", "aB", "a1", "1", "a_b", "abcdefghijklm", "**", "a*", "*a", "?", "~", "!", '"', "a-b"):
            for asked in ("x", "x*", "~x", '"x"', "2<x>", "2[x]"):
                if field != "!":
                    self.refused(f"{field}:{asked}")
        self.refused("!:x")

    def test_words_and_patterns(self):
        for asked in ("X", "xY", "x-y", "x_", "x'", "~", "~x*", "~?", "~~x", "x~", LONG + "x", "~" + LONG + "x",
                      "*" * 41, "?" + LONG, "x.", "x,y", "'x'", "x=", "x/", '""', '"x', 'x"', '"x"y', '"x""y"', '"X"',
                      '"x*"', '"?"', f'"{LONG}x"', '"x,y"', '"a b c d e f g"', '"x" y', '"~x"'):
            for field in ("a", "*"):
                self.refused(f"{field}:{asked}")

    def test_near_and_chain(self):
        for opening, closing in ("<>", "[]"):
            for width in ("", "0", "00", "01", "020", "21", "22", "100", "-1", "1.", "x", "?", "1*", "~2", " 2", "2 "):
                self.refused(f"a:{width}{opening}x{closing}")
            for words in ("", " ", "x  y", " x", "x ", "X", "x*", "x?", LONG + "x", "a b c d e f g", "x,y", "~x", '"x"'):
                self.refused(f"a:2{opening}{words}{closing}")
            for line in (f"a:2{opening}x", f"a:2x{closing}", f"a:2{opening}x{closing}{closing}", f"a:2{closing}x{opening}",
                         f"a:2{opening}x{closing}y", f"a:2{opening}{opening}x{closing}", f"a:{opening}2 x{closing}"):
                self.refused(line)
        self.refused("a:2<x]")
        self.refused("a:2[x>")

    def test_beyond_the_bounds_in_deep_lines_as_well(self):
        for leaf in ("a:0<x>", "a:21[x]", f"a:{LONG}x", "abcdefghijklm:x", 'a:""', 'a:"a b c d e f g"', "a:", ""):
            for deep in (1, 8, 30, 100, 380):
                self.refused("!" * deep + leaf)
            for deep in (1, 8, 30, 100):
                self.refused("(& " * deep + leaf + ")" * deep)
            self.refused("(" + " & ".join(["a:x"] * 40 + [leaf]) + ")")

    def test_lines_of_one_sign_again_and_again(self):
        for sign in SIGNS:
            for many in (1, 2, 3, 399, 400):
                self.refused(sign * many)
        for part in ("(&", "(& ", "!(", "(!", "(a:x & ", "&)", "((&) | "):
            self.refused(part * (400 // len(part)))

    def test_no_deep_line_hangs_on_how_deep_calls_may_go(self):
        with at_most_calls(300):
            for part in ("!", "(", "(& ", "!(", "(a:x & ", "(| !", "(a:x | !", "((&) & "):
                with self.assertRaises(NoText):
                    read_question(part * (400 // len(part)))
            for deep in (9, 20, 30):
                self.assertTrue(self.check("!" * deep + "a:x"))
                self.assertTrue(self.check("(a:x & " * deep + "a:x" + ")" * deep))

    def test_one_sign_left_out_put_in_or_exchanged(self):
        seen = {True: 0, False: 0}
        for question, line in WRITTEN:
            if len(line) > 60:
                continue
            for at in range(len(line) + 1):
                wrong = [line[:at] + line[at + 1:], line[:at] + "\u00e4" + line[at:], line[:at] + "A" + line[at:]]
                for sign in "ab0 19?*~!&|()\"<>[]:',%":
                    wrong.extend([line[:at] + sign + line[at:], line[:at] + sign + line[at + 1:]])
                for other in wrong:
                    seen[self.check(other)] += 1
        self.assertGreater(min(seen.values()), 500)

    def test_by_chance(self):
        chance = random.Random(40)
        for time in range(3000):
            line = show_question(some_question(chance, 3))
            for change in range(chance.randint(1, 3)):
                at = chance.randrange(len(line) + 1)
                put = chance.choice(["", chance.choice(SIGNS), chance.choice("&|()! :*"), line[at:at + 3],
                                     show_question(some_leaf_question(chance))])
                line = line[:at] + put + line[at + chance.randrange(3):]
            if len(line) <= 400:
                self.check(line)


if __name__ == "__main__":
    unittest.main()
