"""Points 2, 20 and 21: deeds as lines, and the house of a book."""

import copy
import itertools
import random
import unittest

from findcourt.books import house_of, read_deed, show_deed
from findcourt.errors import NoDocument, NoField, NoLine, NoPiece, NoStamp
from findcourt.house import House
from helpers import FAR, SIGNS, PlainHouse, change_all, do, plain_stand, some_deed, stand_told

SIXTY = 10 ** 60 - 1

# Each deed with its line.
LINES = [
    (("put", []), "put none"),
    (("put", [("a", "x")]), "put a:'x'"),
    (("put", [("a", "")]), "put a:''"),
    (("put", [("none", "none")]), "put none:'none'"),
    (("put", [("body", "An old house!"), ("title", "House")]), "put body:'An old house!' title:'House'"),
    (("put", [("a", ""), ("b", ""), ("c", "")]), "put a:'' b:'' c:''"),
    (("put", [("abcdefghijkl", "x")]), "put abcdefghijkl:'x'"),
    (("put", [("a", "'")]), "put a:''''"),
    (("put", [("a", "''")]), "put a:''''''"),
    (("put", [("a", "'x")]), "put a:'''x'"),
    (("put", [("a", "x'")]), "put a:'x'''"),
    (("put", [("a", "it's")]), "put a:'it''s'"),
    (("put", [("a", "x''y")]), "put a:'x''''y'"),
    (("put", [("a", "'x' 'y'")]), "put a:'''x'' ''y'''"),
    (("put", [("a", ":")]), "put a:':'"),
    (("put", [("a", ":'")]), "put a:':'''"),
    (("put", [("a", " ")]), "put a:' '"),
    (("put", [("a", "  x  y  ")]), "put a:'  x  y  '"),
    (("put", [("a", "x' b:'y")]), "put a:'x'' b:''y'"),
    (("put", [("a", "' b:'"), ("b", "b:'y'")]), "put a:''' b:''' b:'b:''y'''"),
    (("put", [("a", "x b:"), ("b", " ")]), "put a:'x b:' b:' '"),
    (("put", [("a", ""), ("b", "'")]), "put a:'' b:''''"),
    (("put", [("a", "put none")]), "put a:'put none'"),
    (("change", 0, []), "change 0 none"),
    (("change", 7, [("a", "x")]), "change 7 a:'x'"),
    (("change", SIXTY, [("a", "it's"), ("b", "7 a:'x'")]), f"change {SIXTY} a:'it''s' b:'7 a:''x'''"),
    (("take", 0), "take 0"),
    (("take", 10), "take 10"),
    (("take", SIXTY), f"take {SIXTY}"),
    (("take", FAR), f"take {FAR}"),
    (("stamp",), "stamp"),
    (("drop", 3), "drop 3"),
    (("drop", FAR), f"drop {FAR}"),
    (("seal",), "seal"),
    (("pour", 0, 2), "pour 0 2"),
    (("pour", 0, 0), "pour 0 0"),
    (("pour", FAR, SIXTY), f"pour {FAR} {SIXTY}"),
    (("thin",), "thin"),
    (("pack", 0), "pack 0"),
    (("pack", 123), "pack 123"),
]


class Shown(unittest.TestCase):
    def test_each_line(self):
        for deed, line in LINES:
            before = copy.deepcopy(deed)
            self.assertEqual(show_deed(deed), line)
            self.assertEqual(deed, before)

    def test_a_document_that_is_none_has_no_line(self):
        with self.assertRaises(NoField) as caught:
            show_deed(("put", [("a", "x"), ("a", "y")]))
        self.assertEqual(caught.exception.place, 1)
        with self.assertRaises(NoField):
            show_deed(("change", 0, [("A", "x")]))


class Read(unittest.TestCase):
    def look_at_deed(self, deed):
        line = show_deed(deed)
        self.assertIs(type(line), str)
        told = read_deed(line)
        self.assertEqual(told, deed)
        self.assertIs(type(told), tuple)
        for part in told[1:]:
            self.assertIn(type(part), (int, list))

    def test_each_line(self):
        for deed, line in LINES:
            self.assertEqual(read_deed(line), deed, line)
            self.look_at_deed(deed)

    def test_kinds(self):
        told = read_deed("change 3 a:'x' b:''")
        self.assertEqual([type(part) for part in told], [str, int, list])
        self.assertEqual([type(pair) for pair in told[2]], [tuple, tuple])
        self.assertEqual(read_deed("put none"), ("put", []))

    def test_each_sign(self):
        for sign in SIGNS:
            for text in (sign, sign + sign, "x" + sign, sign + "x", " " + sign + " "):
                self.look_at_deed(("put", [("a", text), ("b", text)]))
        self.look_at_deed(("put", [("a", "".join(SIGNS))]))

    def test_every_short_text(self):
        for many in range(6):
            for signs in itertools.product("' :b", repeat=many):
                text = "".join(signs)
                self.look_at_deed(("put", [("a", text)]))
                self.look_at_deed(("change", 3, [("a", text), ("b", text)]))

    def test_the_largest_documents(self):
        self.look_at_deed(("put", [(letter, "it's " * 400) for letter in "abcdefghijklmnopqrst"]))
        self.look_at_deed(("put", [("a", "'" * 2000)]))

    def test_what_is_read_is_the_askers_own(self):
        line = "put a:'x' b:'y'"
        told = read_deed(line)
        change_all(told)
        self.assertEqual(read_deed(line), ("put", [("a", "x"), ("b", "y")]))
        empty = read_deed("put none")
        empty[1].append(("a", "x"))
        self.assertEqual(read_deed("put none"), ("put", []))


# By what is wrong with them.
REFUSED = {
    "blanks alone": [
        " ", "  ",
    ],
    "an unknown deed": [
        "fetch", "fetch 0", "Put none", "STAMP", "stamps", "puts none", "stand 1", "now", "none", "a:'x'", "0",
    ],
    "too little behind it": [
        "put", "put ", "change", "change ", "change 0", "change 0 ", "change none", "change a:'x'", "take", "take ",
        "drop", "pack", "pack ", "pour", "pour 0", "pour 0 ",
    ],
    "too much behind it": [
        "put none none", "put none a:'x'", "put a:'x' none", "put 0 a:'x'", "put a:'x' 0", "change 0 1 none",
        "change 0 none 1", "take 0 1", "take 0 none", "take none", "stamp 0", "stamp stamp", "stamp none", "seal 0",
        "thin 0", "drop 0 0", "pour 0 2 3", "pack 0 0",
    ],
    "two blanks": [
        "put  none", "put a:'x'  b:'y'", "change  0 none", "change 0  none", "take  0", "pour  0 2", "pour 0  2",
    ],
    "a blank at either end": [
        " put none", "put none ", " put a:'x'", "put a:'x' ", " stamp", "stamp ", " take 0", "take 0 ", "pour 0 2 ",
        " seal", "thin ", "change 0 none ",
    ],
    "a first 0": [
        "take 00", "take 01", "pour 00 2", "pour 0 02", "change 00 none",
    ],
    "a sign": [
        "take -1", "take +1", "take -0", "pour -1 2",
    ],
    "no number": [
        "take x", "take 1x", "take x1", "take 1_0", "take 1.0", "take 0x1", "take 1e3", "take ''", "take '0'",
        "pack 1,0", "drop now",
    ],
    "a text without its signs": [
        "put a:x", "put a:", "put a", "put a:'", "put a:'x", "put a:x'", "put a:'x''", "put a:'''",
        "put a:'x b:'y'", "put a:'x' b:'y", "put a:'x' b:y", "put a:'x' b:", "put a:'x' b", "put  a:'x", "put 'a:'x",
        "put ':'x", "put ''a:'x",
    ],
    "a single ' within": [
        "put a:'it's'", "put a:''x'", "put a:'x'y'", "put a:'x' y'", "put a:'x'''y'", "put a:'x'b:'y'",
        "put a:'x',b:'y'",
    ],
    "other signs for it": [
        'put a:"x"', "put a 'x'", "put a='x'", "put a: 'x'", "put a :'x'", "put a::'x'", "put 'a':'x'",
    ],
    "fields out of order or twice": [
        "put b:'x' a:'y'", "put a:'x' a:'y'", "put a:'x' a:'x'", "put a:'x' c:'x' b:'x'", "change 0 b:'x' a:'y'",
        "change 0 a:'x' a:'y'", "put ab:'' a:''",
    ],
    "no names": [
        "put :'x'", "put A:'x'", "put a1:'x'", "put *:'x'", "put a-b:'x'", "put a b:'x'", "put abcdefghijklm:'x'",
        "put a:'x' B:'y'", "put a:'x' :'y'", "change 0 A:'x'", "change 0 0:'x'",
    ],
    "other ways to say none": [
        "put None", "put []", "put 'none'", "put NONE", "put none:",
    ],
}


class Refused(unittest.TestCase):
    def refused(self, line):
        for ask in (lambda: read_deed(line), lambda: house_of([line])):
            with self.assertRaises(NoLine, msg=line) as caught:
                ask()
            self.assertIs(type(caught.exception), NoLine)

    def test_the_empty_line(self):
        self.refused("")

    def test_each_of_these(self):
        for lines in REFUSED.values():
            for line in lines:
                self.refused(line)

    def test_numbers_of_sixty_one_figures(self):
        for number in (10 ** 60, SIXTY * 10 + 9, 10 ** 100):
            self.refused(f"take {number}")
            self.refused(f"drop {number}")
            self.refused(f"pack {number}")
            self.refused(f"pour {number} 0")
            self.refused(f"pour 0 {number}")
            self.refused(f"change {number} none")
        self.refused("take " + "0" * 61)

    def test_signs_that_no_text_has(self):
        for sign in ("%", "\n", "\t", "\x7f", "\xe9", "\u0664"):
            self.refused(f"put a:'x{sign}y'")
            self.refused(f"put a{sign}:'x'")
            self.refused(f"take {sign}")
            self.refused(f"take 1{sign}")
            self.refused(f"stamp{sign}")

    def test_every_line_but_those_of_deeds(self):
        """Of all lines a step away from a right one, each is refused or shown again as it is."""
        for deed, line in LINES:
            for at in range(len(line) + 1):
                others = [line[:at] + line[at + 1:]]
                others += [line[:at] + sign + line[at:] for sign in " '0a:A-"]
                others += [line[:at] + sign + line[at + 1:] for sign in " '0a:A-"]
                for other in others:
                    try:
                        told = read_deed(other)
                    except NoLine:
                        continue
                    self.assertEqual(show_deed(told), other)


BOOK = [
    "put body:'An old house' title:'It''s old'",
    "put none",
    "stamp",
    "change 1 body:'A garden'",
    "seal",
    "stamp",
    "take 0",
    "put body:'New'",
    "seal",
    "drop 3",
    "pack 0",
    "pour 0 2",
    "thin",
    "pack 0",
]


class Houses(unittest.TestCase):
    def test_an_empty_book(self):
        house, answers = house_of([])
        self.assertIsInstance(house, House)
        self.assertEqual(answers, [])
        self.assertEqual(house.pieces(), [[]])
        self.assertEqual(house.stamp(), 1)

    def test_each_deed(self):
        lines = list(BOOK)
        told = house_of(lines)
        self.assertIs(type(told), tuple)
        house, answers = told
        self.assertEqual(lines, BOOK)
        self.assertEqual(answers, [0, 1, 3, None, None, 6, None, 2, None, None, None, None, None, None])
        self.assertEqual(house.pieces(), [[0, 2, 3], []])
        self.assertIsNotNone(house.packed(0))
        self.assertEqual(house.stamps(), [6])
        self.assertEqual(house.numbers(), [1, 2])
        old = [("body", "An old house"), ("title", "It's old")]
        garden = [("body", "A garden")]
        self.assertEqual(stand_told(house.stand(6)), plain_stand({0: old, 1: garden}))
        self.assertEqual(stand_told(house.now()), plain_stand({1: garden, 2: [("body", "New")]}))
        self.assertEqual(house.stamp(), 15)

    def test_the_house_goes_on(self):
        house, answers = house_of(BOOK)
        house.put([])
        self.assertEqual(house.numbers(), [1, 2, 3])
        self.assertEqual(len(answers), len(BOOK))
        other, others = house_of(BOOK)
        self.assertEqual(other.numbers(), [1, 2])

    def test_the_answers_are_the_askers_own(self):
        house, answers = house_of(BOOK)
        answers.clear()
        self.assertEqual(house_of(BOOK)[1][:3], [0, 1, 3])

    def refused(self, refusal, lines):
        before = list(lines)
        with self.assertRaises(refusal) as caught:
            house_of(lines)
        self.assertIs(type(caught.exception), refusal)
        self.assertEqual(lines, before)

    def test_a_line_that_is_none_behind_right_ones(self):
        self.refused(NoLine, BOOK + ["fetch 0"])
        self.refused(NoLine, BOOK + [""])
        self.refused(NoLine, BOOK[:3] + ["put b:'' a:''"] + BOOK[3:])

    def test_a_deed_that_is_refused(self):
        for refusal, line in ((NoDocument, "take 0"), (NoDocument, "take 9"), (NoDocument, f"take {SIXTY}"),
                              (NoDocument, "change 0 none"), (NoStamp, "drop 3"), (NoStamp, "drop 0"),
                              (NoPiece, "pour 0 2"), (NoPiece, "pour 0 0"), (NoPiece, "pour 1 1"),
                              (NoPiece, "pack 1"), (NoPiece, f"pack {SIXTY}")):
            self.refused(refusal, BOOK + [line])
            self.refused(refusal, BOOK + [line, "stamp"])

    def test_whichever_line_comes_first(self):
        self.refused(NoLine, ["fetch", "take 0"])
        self.refused(NoDocument, ["take 0", "fetch"])
        self.refused(NoStamp, ["drop 1", "take 0", "fetch"])
        self.refused(NoPiece, ["put none", "pack 0", "drop 1", ""])
        self.refused(NoDocument, ["put none", "change 1 none", "change 0 b:'' a:''"])
        self.refused(NoLine, ["put none", "change 1 b:'' a:''", "take 7"])

    def test_of_chance(self):
        chance = random.Random(61)
        for case in range(40):
            plain, lines, answers = PlainHouse(), [], []
            for step in range(chance.randrange(30)):
                deed = some_deed(chance, plain)
                lines.append(show_deed(deed))
                answers.append(do(plain, deed))
            house, told = house_of(lines)
            self.assertEqual(told, answers)
            self.assertEqual(house.pieces(), plain.sealed + [plain.unsealed])
            self.assertEqual(house.stamps(), sorted(plain.kept))
            self.assertEqual(stand_told(house.now()), plain_stand(plain.documents_at(None)))
            for stamp in plain.kept:
                self.assertEqual(stand_told(house.stand(stamp)), plain_stand(plain.documents_at(stamp)))


if __name__ == "__main__":
    unittest.main()
