"""Points 2, 42 and 43: papers as text."""

import copy
import random
import re
import unittest

from asked import some_history, some_question, stand_of, stands_of, word_document
from findcourt.errors import NoText
from findcourt.judge import judge_paper
from findcourt.papers import paper_for
from findcourt.papertexts import read_paper, show_paper
from helpers import FAR, SIGNS, at_most_calls, change_all
from shown import alterations

NUMBER = "(?:0|[1-9][0-9]{0,59})"
PLACES = f"{NUMBER}(?:,{NUMBER})*"
NAME = "[a-z]{1,12}"


def rows_of(entry):
    row = f"{NAME}:(?:-|{entry}(?:/{entry})*)"
    return f"(?:-|{row}(?:;{row})*)"


# Y and N stand in the place of a yes-paper and of a no-paper that is read, with their brackets.
YES, NO = "\u00a7", "\u00b6"
YES_FORM = (rf"\((?:at {NAME} {NUMBER}|fits {NAME} [a-z0-9]+ {NUMBER}|from {NAME} {NUMBER}|places {NAME} {PLACES}"
            rf"|all (?:-|{YES}+)|this {NUMBER} {YES}|no {NO})\)")
NO_FORM = (rf"\((?:lacks|broken {rows_of(f'{NUMBER}@{NUMBER}')}|thin {rows_of(f'{NUMBER}@[a-z0-9]+')}"
           rf"|late {rows_of(PLACES)}|fails {NUMBER} {NO}|none (?:-|{NO}+)|yes {YES})\)")


def is_written(line):
    before, line = None, f"({line})"
    while line != before:
        before, line = line, re.sub(NO_FORM, NO, re.sub(YES_FORM, YES, line))
    return line in (YES, NO)


AT, LACKS = ("at", "a", 0), ("lacks",)
WRITTEN = [
    (("at", "body", 12), "at body 12"),
    (("at", "abcdefghijkl", FAR), f"at abcdefghijkl {FAR}"),
    (("fits", "body", "house", 0), "fits body house 0"),
    (("fits", "a", "7" * 70, 3), "fits a " + "7" * 70 + " 3"),
    (("from", "body", 1), "from body 1"),
    (("places", "body", [3]), "places body 3"),
    (("places", "body", [3, 0, 10, 3]), "places body 3,0,10,3"),
    (("all", []), "all -"),
    (("all", [AT]), "all (at a 0)"),
    (("all", [AT, ("no", LACKS), ("all", [])]), "all (at a 0)(no (lacks))(all -)"),
    (("this", 0, AT), "this 0 (at a 0)"),
    (("this", 30, ("this", 1, ("all", [AT, AT]))), "this 30 (this 1 (all (at a 0)(at a 0)))"),
    (("no", LACKS), "no (lacks)"),
    (("no", ("yes", ("no", LACKS))), "no (yes (no (lacks)))"),
    (("lacks",), "lacks"),
    (("broken", []), "broken -"),
    (("broken", [("body", [])]), "broken body:-"),
    (("broken", [("body", [(3, 1)])]), "broken body:3@1"),
    (("broken", [("body", [(3, 1), (5, 0)]), ("note", []), ("title", [(0, 2)])]), "broken body:3@1/5@0;note:-;title:0@2"),
    (("thin", []), "thin -"),
    (("thin", [("body", [])]), "thin body:-"),
    (("thin", [("a", [(0, "old"), (12, "7")]), ("b", [(1, "x1")])]), "thin a:0@old/12@7;b:1@x1"),
    (("late", []), "late -"),
    (("late", [("body", [])]), "late body:-"),
    (("late", [("a", [[0], [3, 5]]), ("b", []), ("c", [[1, 2, 3]])]), "late a:0/3,5;b:-;c:1,2,3"),
    (("fails", 2, LACKS), "fails 2 (lacks)"),
    (("fails", 0, ("fails", 1, ("broken", [("a", [(0, 1)])]))), "fails 0 (fails 1 (broken a:0@1))"),
    (("none", []), "none -"),
    (("none", [LACKS]), "none (lacks)"),
    (("none", [LACKS, ("none", []), ("yes", AT)]), "none (lacks)(none -)(yes (at a 0))"),
    (("yes", AT), "yes (at a 0)"),
    (("yes", ("no", ("late", []))), "yes (no (late -))"),
]


class Written(unittest.TestCase):
    def check(self, paper, line=None):
        handed = copy.deepcopy(paper)
        shown = show_paper(paper)
        self.assertIs(type(shown), str)
        if line is not None:
            self.assertEqual(shown, line)
        self.assertTrue(is_written(shown), shown)
        self.assertNotIn("=", shown)
        for time in range(2):
            read = read_paper(shown)
            self.assertEqual(read, paper)
            self.assertEqual(repr(read), repr(paper))
            change_all(read)
        self.assertEqual(paper, handed)

    def test_each_kind(self):
        for paper, line in WRITTEN:
            self.check(paper, line)

    def test_within_one_another(self):
        yes = [pair for pair in WRITTEN if pair[0][0] in ("at", "fits", "from", "places", "all", "this", "no")]
        no = [pair for pair in WRITTEN if pair not in yes]
        self.assertEqual((len(yes), len(no)), (14, 18))
        for paper, line in yes:
            self.check(("all", [paper, paper]), f"all ({line})({line})")
            self.check(("this", 7, paper), f"this 7 ({line})")
            self.check(("yes", paper), f"yes ({line})")
        for paper, line in no:
            self.check(("none", [paper, paper]), f"none ({line})({line})")
            self.check(("fails", 7, paper), f"fails 7 ({line})")
            self.check(("no", paper), f"no ({line})")

    def test_thirty_deep(self):
        for first in (("no", "yes"), ("this", "this"), ("fails", "fails"), ("all", "all")):
            paper = LACKS if first[0] == "fails" else AT
            for deep in range(30):
                kind = first[deep % 2 == 0] if first[0] == "no" else first[0]
                paper = (kind, 0, paper) if kind in ("this", "fails") else (
                    (kind, [paper]) if kind == "all" else (kind, paper))
                self.check(paper)

    def test_long_lists(self):
        self.check(("places", "a", list(range(3000))))
        self.check(("late", [("a", [[place] for place in range(2000)])]))
        self.check(("all", [AT] * 1500))

    def test_told_papers_by_chance(self):
        chance = random.Random(42)
        for time in range(20):
            house, plain = some_history(chance, 30)
            for stand, documents in stands_of(house, plain):
                for at in range(5):
                    question = some_question(chance, 4)
                    for number in documents:
                        told, paper = paper_for(stand, number, question)
                        self.check(paper)
                        read = read_paper(show_paper(paper))
                        self.assertTrue(judge_paper(stand, number, question, told, read))
                        self.assertFalse(judge_paper(stand, number, question, not told, read))

    def test_the_judge_says_the_same_of_wrong_papers(self):
        chance = random.Random(43)
        checked = 0
        for time in range(40):
            document, question = word_document(chance), some_question(chance, 3)
            stand = stand_of(document)
            told, paper = paper_for(stand, 0, question)
            for other in alterations(paper):
                shown = show_paper(other)
                if is_written(shown):
                    self.check(other)
                    for as_yes in (True, False):
                        self.assertIs(judge_paper(stand, 0, question, as_yes, read_paper(shown)),
                                      judge_paper(stand, 0, question, as_yes, other))
                    checked += 1
        self.assertGreater(checked, 300)


class Read(unittest.TestCase):
    def refused(self, line):
        self.assertFalse(is_written(line), line)
        with self.assertRaises(NoText, msg=line) as caught:
            read_paper(line)
        self.assertIs(type(caught.exception), NoText)

    def check(self, line):
        if is_written(line):
            self.assertEqual(show_paper(read_paper(line)), line)
            return True
        self.refused(line)
        return False

    def test_first_texts(self):
        for line in ("", " ", "-", "()", "(lacks)", "(at a 0)", "is a 0", "At a 0", "att a 0", "a 0", "0", "lack", "lackss",
                     "Lacks", "lacks lacks", "word a x", "= a", "yes", "no", "all", "none", "this", "fails", "broken",
                     "thin", "late", "at", "fits", "from", "places"):
            self.refused(line)

    def test_too_little_or_too_much(self):
        for paper, line in WRITTEN:
            for wrong in (line + " ", " " + line, line + " -", line + " 0", line + ")", "(" + line + ")", line + "(lacks)x",
                          line + " lacks", line + "/", line + ";", line + ",", line + " (lacks)", "x" + line):
                self.refused(wrong)
            for at, sign in enumerate(line):
                if sign == " ":
                    self.refused(line[:at])
                    self.refused(line[:at + 1])
                    self.refused(line[:at] + " " + line[at:])
                    self.refused(line[:at] + line[at + 1:])
        for line in ("at a", "at 0", "at a 0 0", "fits a x", "fits a 0", "fits a x y 0", "from a", "places a", "places a ",
                     "all", "all ", "this 0", "this (at a 0)", "no", "no -", "lacks -", "lacks 0", "broken", "thin ",
                     "fails 0", "fails (lacks)", "fails 0 -", "yes -", "this 0 -", "none (lacks) (lacks)",
                     "all (at a 0)-", "all -(at a 0)", "none --"):
            self.refused(line)

    def test_numbers(self):
        for number in ("00", "01", "007", "-1", "+1", "1.", "x", "1" * 61, "1 0", "1,", ",1", "", "0x", "1_0", "1" * 5000):
            for line in ("at a {}", "fits a x {}", "from a {}", "places a {}", "places a 1,{}", "places a {},1",
                         "this {} (at a 0)", "fails {} (lacks)", "broken a:{}@0", "broken a:0@{}", "broken a:1@1/{}@0",
                         "thin a:{}@x", "late a:{}", "late a:1/{}", "late a:1,{}", "late a:1;b:{}", "all (at a {})"):
                self.refused(line.replace("{}", number))
        self.assertEqual(read_paper("at a " + "9" * 60), ("at", "a", int("9" * 60)))

    def test_fields_and_words(self):
        for field in ("", "A", "a1", "1", "*", "abcdefghijklm", "a-b", "-", "(a)"):
            for line in ("at {} 0", "fits {} x 0", "from {} 0", "places {} 0", "broken {}:0@1", "broken {}:-", "thin {}:-",
                         "thin {}:0@x", "late {}:0", "late a:0;{}:0", "late {}:-"):
                self.refused(line.replace("{}", field))
        for word in ("", "X", "x-y", "x y", "*", "x?", "-", "'x'", "x@"):
            for line in ("fits a {} 0", "thin a:0@{}", "thin a:1@x/0@{}"):
                self.refused(line.replace("{}", word))

    def test_lists(self):
        for line in ("places a -", "places a 1,,2", "places a 1, 2", "places a 1/2", "late a:1,,2", "late a:1//2",
                     "late a:/1", "late a:1/", "late a:-/1", "late a:1/-", "late a:", "late a", "late a:-;", "late ;a:-",
                     "late a:-;-", "late -;a:-", "late a:--", "late a:1;;b:1", "broken a:", "broken a:1", "broken a:1@",
                     "broken a:@1", "broken a:1@1@1", "broken a:1@1,2", "broken a:1@x", "broken a:1,2", "thin a:1",
                     "thin a:1@", "thin a:x@1", "thin a:1,2", "late a:1@1", "late a:1@x", "late a::1", "late :1",
                     "broken a:1@1/", "broken /", "thin a:-;b", "thin a:1@x;", "places a a", "broken [a:1@1]"):
            self.refused(line)

    def test_brackets(self):
        for line in ("no lacks", "no (lacks", "no lacks)", "no ()", "no ((lacks))", "no (lacks))", "all at a 0",
                     "all (at a 0", "all (at a 0)(", "all (at a 0))", "all ()", "all (at a 0),(at a 0)",
                     "all (at a 0) (at a 0)", "this 0 at a 0", "this 0 (at a 0)(at a 0)", "fails 0 (lacks)(lacks)",
                     "none (none (lacks)", "yes [at a 0]", "yes (at a 0) ", "yes ( at a 0)", "yes (at a 0 )",
                     "no (lacks)(lacks)", "none (-)", "all (-)"):
            self.refused(line)

    def test_the_other_sort_within(self):
        yes = ("at a 0", "fits a x 0", "from a 0", "places a 0", "all -", "this 0 (at a 0)", "no (lacks)")
        no = ("lacks", "broken -", "thin a:-", "late a:0", "fails 0 (lacks)", "none -", "yes (at a 0)")
        for line in yes:
            for wrong in ("no ({})", "none ({})", "none (lacks)({})", "fails 0 ({})"):
                self.refused(wrong.replace("{}", line))
        for line in no:
            for wrong in ("yes ({})", "all ({})", "all (at a 0)({})", "this 0 ({})"):
                self.refused(wrong.replace("{}", line))

    def test_one_sign_left_out_put_in_or_exchanged(self):
        seen = {True: 0, False: 0}
        for paper, line in WRITTEN:
            for at in range(len(line) + 1):
                wrong = [line[:at] + line[at + 1:], line[:at] + "A" + line[at:], line[:at] + "\u00e4" + line[at:]]
                for sign in "ab0 19-(),;:/@=%":
                    wrong.extend([line[:at] + sign + line[at:], line[:at] + sign + line[at + 1:]])
                for other in wrong:
                    seen[self.check(other)] += 1
        self.assertGreater(min(seen.values()), 500)

    def test_by_chance(self):
        chance = random.Random(44)
        lines = [line for paper, line in WRITTEN]
        for time in range(4000):
            line = chance.choice(lines)
            for change in range(chance.randint(1, 3)):
                at = chance.randrange(len(line) + 1)
                put = chance.choice(["", chance.choice(SIGNS), chance.choice("-(),;:/@ "), "(" + chance.choice(lines) + ")"])
                line = line[:at] + put + line[at + chance.randrange(3):]
            self.check(line)

    def test_no_deep_line_hangs_on_how_deep_calls_may_go(self):
        with at_most_calls(300):
            for part in ("no (yes (", "all (", "this 0 (", "fails 1 (", "none (lacks)("):
                with self.assertRaises(NoText):
                    read_paper(part * 2000)
            self.assertTrue(self.check("this 0 (" * 35 + "at a 0" + ")" * 35))
            self.assertTrue(self.check("all (all -)(" * 35 + "at a 0" + ")" * 35))

    def test_deep_and_long_lines_that_are_none(self):
        for line in ("no (" * 30, "this 0 (" * 30 + "lacks" + ")" * 30, "all (" * 29 + "at a 0" + ")" * 28,
                     "places a " + "1," * 9000, "late a:" + "1/" * 9000, "all " + "(at a 0)" * 2000 + "(", "0" * 20000,
                     " " * 20000, "a" * 20000, "lacks" * 4000):
            self.refused(line)


if __name__ == "__main__":
    unittest.main()
