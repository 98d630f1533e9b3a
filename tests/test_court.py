"""Points 2 and 41: the court, which is told lines and answers with texts."""

import random
import unittest

from asked import answers_plainly, fields_plainly, holds_plainly, some_question, word_document
from findcourt.asktexts import show_question
from findcourt.books import show_deed
from findcourt.court import Court
from findcourt.errors import FindError, NoDocument, NoLine, NoPiece, NoStamp
from findcourt.judge import judge_paper
from findcourt.papers import paper_for
from findcourt.papertexts import read_paper, show_paper
from helpers import PlainHouse, do, some_deed, stand_told
from shown import alterations
from weighed import best_plainly

BOOK = [
    ("put body:'An old house' title:'House'", "0"),
    ("put body:'A garden'", "1"),
    ("put none", "2"),
    ("stamp", "4"),
    ("seal", "ok"),
    ("change 0 body:'A new house'", "ok"),
    ("take 1", "ok"),
    ("put body:'House, house, house'", "3"),
    ("stamp", "9"),
    ("seal", "ok"),
    ("pack 0", "ok"),
    ("pour 0 2", "ok"),
    ("thin", "ok"),
]
# With now, the stamp 4 and the stamp 9: there is no document 1 now or at 9, and no 3 at 4.
ASKED = [
    ("ask now *:house", "0 3"),
    ("ask 4 *:house", "0"),
    ("ask 9 *:house", "0 3"),
    ("ask 4 body:*a*", "0 1"),
    ("ask now body:~house", "0 3"),
    ("ask now !*:house", "2"),
    ("ask 4 !*:house", "1 2"),
    ("ask now *:tree", "none"),
    ("ask now (&)", "0 2 3"),
    ("ask 4 (&)", "0 1 2"),
    ("ask 4 (|)", "none"),
    ('ask 4 (body:"old house" & !title:2<a b>)', "0"),
    ("ask now body:3[house house]", "3"),
    ("best 4 20 (&)", "0 0; 1 0; 2 0"),
    ("best now 1 (&)", "0 0"),
    ("best 4 5 *:tree", "none"),
    ("best 4 1 title:house", "0 2/3"),
    ("best now 2 body:house", "3 16/17; 0 16/27"),
    ("best now 1 body:house", "3 16/17"),
    ("best 9 20 body:new", "0 8/9"),
    ("shown now 0 *:new", "yes"),
    ("shown 4 0 *:new", "no"),
    ("shown 4 1 body:garden", "yes"),
    ("shown 4 2 *:*", "no"),
    ("why now 0 *:new", "yes at body 1"),
    ("why 4 0 *:new", "no lacks"),
    ('why 4 0 (body:"old house" & !title:2<a b>)', "yes all (from body 1)(no (thin title:-))"),
    ('why 4 0 *:"house old"', "no broken body:2@1;title:0@1"),
    ("why 9 3 body:3[house house]", "yes places body 0,1"),
    ("why 9 2 *:3[house house]", "no late -"),
    ("why 9 3 body:2<house new>", "no thin body:0@new/1@new/2@new"),
    ("judge 4 0 yes at body 1 = *:old", "right"),
    ("judge 4 0 yes at body 2 = *:old", "wrong"),
    ("judge 4 0 no at body 1 = *:old", "wrong"),
    ("judge 4 0 no lacks = *:new", "right"),
    ("judge 4 0 yes lacks = *:new", "wrong"),
    ("judge now 0 no lacks = *:new", "wrong"),
    ("judge now 3 yes at body 2 = body:house", "right"),
    ("judge now 3 yes places body 0,2 = body:3[house house]", "right"),
    ("judge now 3 yes places body 2,0 = body:3[house house]", "wrong"),
    ('judge 4 0 yes all (from body 1)(no (thin title:-)) = (body:"old house" & !title:2<a b>)', "right"),
    ("judge 4 0 yes all - = (&)", "right"),
    ("judge 4 0 no none - = (|)", "right"),
    ("judge 4 0 no late - = *:new", "wrong"),
    ("came 4 now *:house", "3 / none"),
    ("came now 4 *:house", "none / 3"),
    ("came 4 9 (&)", "3 / 1"),
    ("came 4 now !*:house", "none / 1"),
    ("came now now (&)", "none / none"),
    ("came 4 4 *:*", "none / none"),
    ("came 9 now body:new", "none / none"),
    ("came 4 now body:new", "0 / none"),
    ("came 4 now body:old", "none / 0"),
]


def court_of(lines=BOOK):
    court = Court()
    for line, answer in lines:
        court.say(line)
    return court


class Told(unittest.TestCase):
    def test_deeds(self):
        court = Court()
        for line, answer in BOOK:
            told = court.say(line)
            self.assertEqual(told, answer, line)
            self.assertIs(type(told), str)
        self.assertEqual(court.say("drop 4"), "ok")

    def test_asked(self):
        court = court_of()
        for line, answer in ASKED:
            for time in range(2):
                told = court.say(line)
                self.assertEqual(told, answer, line)
                self.assertIs(type(told), str)

    def test_asking_takes_no_time(self):
        court = court_of()
        for line, answer in ASKED:
            court.say(line)
        self.assertEqual(court.say("stamp"), "14")

    def test_what_a_court_tells_of_a_stamp_stays(self):
        court = court_of()
        told = [court.say(line) for line, answer in ASKED if "now" not in line]
        for line in ("put body:'house'", "change 0 none", "take 2", "seal", "pack 0", "stamp", "thin", "pour 0 2"):
            court.say(line)
            self.assertEqual([court.say(line) for line, answer in ASKED if "now" not in line], told)

    def test_two_courts_side_by_side(self):
        one, other = Court(), Court()
        self.assertEqual(one.say("put a:'x'"), "0")
        self.assertEqual(other.say("ask now (&)"), "none")
        self.assertEqual(other.say("put a:'y'"), "0")
        self.assertEqual(one.say("put a:'x'"), "1")
        self.assertEqual(other.say("stamp"), "2")
        self.assertEqual(one.say("stamp"), "3")
        self.assertEqual((one.say("ask now a:x"), other.say("ask now a:x")), ("0 1", "none"))
        with self.assertRaises(NoStamp):
            one.say("ask 2 a:x")

    def test_worths_that_are_whole_and_ones_that_are_not(self):
        court = Court()
        for text in ("x", "x"):
            court.say(f"put a:'{text}' b:'y'")
        court.say("put none")
        self.assertEqual(court.say("best now 3 (&)"), "0 0; 1 0; 2 0")
        self.assertEqual(court.say("best now 3 a:x"), "0 16/27; 1 16/27")
        court.say("take 2")
        self.assertEqual(court.say("best now 3 a:x"), "0 1/2; 1 1/2")
        self.assertEqual(court.say("best now 3 *:?"), "0 1; 1 1")
        self.assertEqual(court.say("best now 1 *:?"), "0 1")

    def test_many(self):
        court = Court()
        for number in range(25):
            court.say("put none")
        for many in (1, 2, 9, 10, 19, 20):
            told = court.say(f"best now {many} (&)")
            self.assertEqual(told, "; ".join(f"{number} 0" for number in range(many)))

    def test_long_lines(self):
        court = Court()
        text = "x " * 900
        self.assertEqual(court.say("put " + " ".join(f"{field}:'{text}'" for field in "abcdefghij")), "0")
        paper = court.say("why now 0 a:2[x y]")
        self.assertEqual(len(paper), len("no late a:") + sum(len(str(place)) + 1 for place in range(900)) - 1)
        self.assertEqual(court.say(f"judge now 0 no {paper[3:]} = a:2[x y]"), "right")
        self.assertEqual(court.say(f"judge now 0 no {paper[3:-4]} = a:2[x y]"), "wrong")


class Refused(unittest.TestCase):
    def setUp(self):
        self.court = court_of()
        self.before = self.told()

    def told(self):
        house = self.court.house
        return (house.pieces(), house.stamps(), house.numbers(), stand_told(house.now()),
                [stand_told(house.stand(stamp)) for stamp in house.stamps()])

    def refused(self, error, *lines):
        for line in lines:
            with self.assertRaises(FindError, msg=line) as caught:
                self.court.say(line)
            self.assertIs(type(caught.exception), error, line)
        self.assertEqual(self.told(), self.before)

    def test_lines_that_are_none(self):
        self.refused(NoLine, "", " ", "x", "asks now a:x", "Ask now a:x", "ask", "best", "shown", "why", "judge", "came",
                     "ask now", "ask now ", "ask a:x", "ask 4", "best now", "best now a:x", "best now 1", "best 1 a:x",
                     "shown now", "shown now a:x", "shown now 0", "why now 0", "came now", "came now a:x", "came now 4",
                     "stand now", "now", "none", "put", "stamp 1", "thin 0", "pour 0", "take", "ask now a:x b:y",
                     "ask now 4 a:x", "ask 4 now a:x", "came now 4 9 a:x", "stamps", "numbers")

    def test_blanks(self):
        for line, answer in ASKED + BOOK:
            self.refused(NoLine, " " + line, line + " ", line.replace(" ", "  ", 1) if " " in line else line + "  ",
                         line + "\n")
        self.refused(NoLine, "ask now  a:x", "best now  1 a:x", "best now 1  a:x", "shown now 0  a:x", "came now now  a:x",
                     "judge 4 0 yes  at body 1 = *:old", "judge 4 0 yes at body 1  = *:old",
                     "judge 4 0 yes at body 1 =  *:old")

    def test_when(self):
        for when in ("", "Now", "then", "-4", "+4", "04", "4.", "1" * 61, "now4", "None", "*", "4,9"):
            self.refused(NoLine, f"ask {when} a:x", f"best {when} 1 a:x", f"shown {when} 0 a:x", f"why {when} 0 a:x",
                         f"judge {when} 0 yes all - = (&)", f"came {when} now a:x", f"came now {when} a:x")

    def test_many(self):
        for many in ("0", "00", "01", "21", "22", "100", "-1", "1.", "x", "", "now", "1" * 60, "1" * 61):
            self.refused(NoLine, f"best now {many} a:x", f"best 4 {many} a:x", f"best 5 {many} a:x")

    def test_numbers(self):
        for number in ("00", "01", "-1", "x", "", "now", "1" * 61, "0.", "0,1"):
            self.refused(NoLine, f"shown now {number} a:x", f"why now {number} a:x",
                         f"judge now {number} yes all - = (&)", f"take {number}", f"drop {number}")

    def test_told(self):
        for told in ("Yes", "true", "y", "", "yesno", "0", "at", "maybe", "none"):
            self.refused(NoLine, f"judge 4 0 {told} at body 1 = *:old")
        self.refused(NoLine, "judge 4 0 at body 1 = *:old")

    def test_papers_and_questions_that_are_none(self):
        self.refused(NoLine, "judge 4 0 yes = *:old", "judge 4 0 yes  = *:old", "judge 4 0 yes at body = *:old",
                     "judge 4 0 yes at body 1 *:old", "judge 4 0 yes at body 1 =", "judge 4 0 yes at body 1 = ",
                     "judge 4 0 yes at body 1=*:old", "judge 4 0 yes at body 1= *:old", "judge 4 0 yes at body 1 =*:old",
                     "judge 4 0 yes at body 1 == *:old", "judge 4 0 yes at body 1 = = *:old",
                     "judge 4 0 yes at body 1 = *:old = *:old", "judge 4 0 yes at body 01 = *:old",
                     "judge 4 0 yes (at body 1) = *:old", "judge 4 0 yes no (at body 1) = *:old",
                     "judge 4 0 yes at body 1 = *:OLD", "judge 4 0 yes at body 1", "judge 4 0 yes lacks *:old",
                     "judge 4 0 no none (at body 1) = *:old", "judge 4 0 no lacks", "judge 4 0 yes = ", "judge 4 0 no")
        for question in ("", "x", "a:", ":x", "a:X", "a:x)", "(a:x)", "(a:x & b:y | c:z)", "a:0<x>", "a:21[x]", 'a:""',
                         "abcdefghijklm:x", "a:" + "x" * 41, "!" * 390, "(" * 390, "a:x%", "a:x = b:y"):
            self.refused(NoLine, f"ask now {question}", f"best now 1 {question}", f"shown now 0 {question}",
                         f"why now 0 {question}", f"came now 4 {question}", f"judge 4 0 yes at body 1 = {question}")

    def test_no_line_comes_ahead_of_no_stamp_and_no_document(self):
        self.refused(NoLine, "ask 5 a:", "best 5 0 a:x", "shown 5 77 a:X", "why 5 0 a:x b:y", "came 5 6 (a:x)",
                     "came 4 5 a:", "judge 5 77 yes at body = *:old", "judge 5 0 maybe at body 1 = *:old",
                     "judge 4 77 yes at body 1 = *:OLD", "shown 4 77 a:", "why 4 77 ", "take 77 ", "drop 5 5",
                     "change 77 b:'x' a:'y'", "pour 9 9 9", "pack -1")

    def test_no_stamp(self):
        for stamp in (0, 1, 3, 5, 8, 10, 13, 14, "1" * 60):
            self.refused(NoStamp, f"ask {stamp} a:x", f"best {stamp} 1 a:x", f"shown {stamp} 0 a:x", f"why {stamp} 0 a:x",
                         f"judge {stamp} 0 yes at body 1 = *:old", f"came {stamp} now a:x", f"came now {stamp} a:x",
                         f"came {stamp} {stamp} a:x", f"came 4 {stamp} a:x", f"drop {stamp}")
        # Ahead of a document that is not there.
        self.refused(NoStamp, "shown 5 77 a:x", "why 5 77 a:x", "judge 5 77 yes at body 1 = *:old")

    def test_no_document(self):
        for when, number in (("now", 1), ("9", 1), ("4", 3), ("now", 4), ("4", 77), ("9", "1" * 60)):
            for question in ("a:x", "(&)", "(|)", "!*:*"):
                self.refused(NoDocument, f"shown {when} {number} {question}", f"why {when} {number} {question}",
                             f"judge {when} {number} yes at body 1 = {question}",
                             f"judge {when} {number} no none - = {question}")

    def test_what_deeds_are_refused_with(self):
        self.refused(NoDocument, "take 1", "change 1 none", "change 77 a:'x'")
        self.refused(NoStamp, "drop 5", "drop 77")
        self.refused(NoPiece, "pour 0 2", "pour 0 0", "pour 1 1", "pack 1", "pack 77")
        self.refused(NoLine, "put b:'x' a:'y'", "change 0 a:'x' a:'y'", "put A:'x'", "put a:'x", "put a:'x%'")
        self.assertEqual(self.court.say("stamp"), "14")

    def test_a_dropped_stamp(self):
        self.court.say("drop 4")
        for line, answer in ASKED:
            if " 4 " in line[:9]:
                with self.assertRaises(NoStamp):
                    self.court.say(line)
        self.assertEqual(self.court.say("ask 9 *:house"), "0 3")

    def test_a_new_court(self):
        court = Court()
        self.assertEqual(court.say("ask now (&)"), "none")
        self.assertEqual(court.say("best now 20 (&)"), "none")
        self.assertEqual(court.say("came now now (&)"), "none / none")
        for line, error in (("shown now 0 (&)", NoDocument), ("ask 0 (&)", NoStamp), ("take 0", NoDocument),
                            ("pack 0", NoPiece), ("ask 0 ()", NoLine)):
            with self.assertRaises(error):
                court.say(line)


class Histories(unittest.TestCase):
    def asked(self, chance, court, plain, when):
        stamp = None if when == "now" else int(when)
        documents = plain.documents_at(stamp)
        stand = court.house.now() if stamp is None else court.house.stand(stamp)
        question = some_question(chance, 3)
        line = show_question(question)
        answers = answers_plainly(documents, question)
        self.assertEqual(court.say(f"ask {when} {line}"), " ".join(map(str, answers)) or "none")
        many = chance.randint(1, 5)
        best = "; ".join(f"{number} {top}" + (f"/{bottom}" if bottom > 1 else "")
                         for number, (top, bottom) in best_plainly(documents, question, many))
        self.assertEqual(court.say(f"best {when} {many} {line}"), best or "none")
        for number in documents:
            told = "yes" if holds_plainly(fields_plainly(documents[number]), question) else "no"
            self.assertEqual(court.say(f"shown {when} {number} {line}"), told)
            paper = paper_for(stand, number, question)
            self.assertEqual(court.say(f"why {when} {number} {line}"), f"{told} {show_paper(paper[1])}")
            self.assertEqual(court.say(f"judge {when} {number} {told} {show_paper(paper[1])} = {line}"), "right")
            for other in chance.sample(list(alterations(paper[1])), 2):
                self.judged(court, stand, when, number, question, other)

    def judged(self, court, stand, when, number, question, paper):
        try:
            read = read_paper(show_paper(paper))
        except FindError:
            return
        for told, as_yes in (("yes", True), ("no", False)):
            expected = "right" if judge_paper(stand, number, question, as_yes, read) else "wrong"
            self.assertEqual(court.say(f"judge {when} {number} {told} {show_paper(paper)} = {show_question(question)}"),
                             expected)

    def test_by_chance(self):
        chance = random.Random(41)
        for time in range(15):
            court, plain = Court(), PlainHouse()
            for at in range(30):
                deed = some_deed(chance, plain, word_document)
                told = do(plain, deed)
                self.assertEqual(court.say(show_deed(deed)), "ok" if told is None else str(told))
                if at % 6 == 5:
                    for when in ["now"] + [str(stamp) for stamp in sorted(plain.kept)]:
                        self.asked(chance, court, plain, when)


if __name__ == "__main__":
    unittest.main()
