"""Points 2 and 19: patterns and the words they fit."""

import itertools
import random
import re
import unittest

from findcourt.errors import NoPattern
from findcourt.house import House
from findcourt.patterns import fits, words_like
from helpers import SIGNS


def plainly_fits(pattern, word):
    """Each * tried for every row of signs, one after the other."""
    if pattern == "":
        return word == ""
    if pattern[0] == "*":
        return any(plainly_fits(pattern[1:], word[many:]) for many in range(len(word) + 1))
    return word != "" and pattern[0] in ("?", word[0]) and plainly_fits(pattern[1:], word[1:])


class Fits(unittest.TestCase):
    def look_at_fits(self, pattern, fitting, others):
        for word in fitting:
            self.assertIs(fits(pattern, word), True, (pattern, word))
        for word in others:
            self.assertIs(fits(pattern, word), False, (pattern, word))

    def test_without_signs_of_its_own(self):
        self.look_at_fits("old", ["old"], ["", "o", "ol", "olds", "old7", "xold", "odl", "OLD"])
        self.look_at_fits("a", ["a"], ["", "b", "aa", "7"])
        self.look_at_fits("7", ["7"], ["", "a", "77"])

    def test_one_sign(self):
        self.look_at_fits("?", ["a", "z", "0", "9"], ["", "aa"])
        self.look_at_fits("o?d", ["old", "odd", "o0d"], ["od", "o", "olld", "xld", "olx", ""])
        self.look_at_fits("?ld", ["old", "0ld"], ["ld", "oold", "olx"])
        self.look_at_fits("ol?", ["old", "ol7"], ["ol", "oldd", "xld"])

    def test_several_signs(self):
        self.look_at_fits("??", ["ab", "00"], ["", "a", "abc"])
        self.look_at_fits("?l??", ["olds", "1l34"], ["old", "oldss", "oods"])

    def test_any_row_alone(self):
        self.look_at_fits("*", ["", "a", "old", "0" * 2000], [])
        self.look_at_fits("**", ["", "a", "old"], [])
        self.look_at_fits("*" * 40, ["", "a", "old", "q" * 100], [])

    def test_any_row_at_the_beginning(self):
        self.look_at_fits("*ld", ["ld", "old", "xxld", "ldld", "lldld"], ["", "l", "d", "ldx", "olx", "lda"])

    def test_any_row_at_the_end(self):
        self.look_at_fits("ol*", ["ol", "old", "olol", "ol7777"], ["", "o", "xol", "lo"])

    def test_any_row_in_the_middle(self):
        self.look_at_fits("o*d", ["od", "old", "odd", "oxxxd", "odod"], ["", "o", "d", "oda", "xod", "odo"])

    def test_twice_in_a_row(self):
        self.look_at_fits("o**d", ["od", "old", "oxxxd"], ["", "o", "d", "oda"])
        self.look_at_fits("**d", ["d", "od", "dd"], ["", "do"])
        self.look_at_fits("d**", ["d", "do", "dd"], ["", "od"])

    def test_several_rows(self):
        self.look_at_fits("*a*b*", ["ab", "xaxbx", "aab", "abb", "bab"], ["", "a", "b", "ba", "bbaa"])
        self.look_at_fits("a*b*c", ["abc", "axbxc", "abbcc", "abcbc"], ["ab", "bc", "acb", "abcx", "xabc"])

    def test_rows_and_signs(self):
        self.look_at_fits("*?", ["a", "ab", "abc"], [""])
        self.look_at_fits("?*", ["a", "ab", "abc"], [""])
        self.look_at_fits("?*?", ["ab", "abc"], ["", "a"])
        self.look_at_fits("*?*?*", ["ab", "abc", "abcd"], ["", "a"])
        self.look_at_fits("o*?d", ["oxd", "oxxd", "oddd"], ["od", "odx"])

    def test_the_empty_word(self):
        self.look_at_fits("*", [""], [])
        for pattern in ("a", "?", "a*", "*a", "?*", "*?", "**?", "*a*"):
            self.look_at_fits(pattern, [], [""])

    def test_a_first_try_fails_and_a_later_one_fits(self):
        self.look_at_fits("*ab", ["aab", "abab", "aaaaab", "abaab"], ["aba", "abb"])
        self.look_at_fits("a*bc", ["abbc", "abcbc", "ababc", "abxbbc"], ["abcb", "abb"])
        self.look_at_fits("*aab*", ["aaab", "abaabb", "aaaabx"], ["abab", "aa"])
        self.look_at_fits("*a?c", ["abaac", "abcabc", "aaac"], ["abcab", "acc7"])
        self.look_at_fits("a*ab*b", ["aabb", "aaabab", "aabab"], ["abb", "aab", "aaba"])

    def test_forty_signs(self):
        self.look_at_fits("q" * 40, ["q" * 40], ["q" * 39, "q" * 41, "q" * 39 + "x"])
        self.look_at_fits("?" * 40, ["q7" * 20], ["q" * 39, "q" * 41])
        self.look_at_fits("*" + "q" * 39, ["q" * 39, "q" * 300], ["q" * 38, "q" * 300 + "x"])

    def test_long_words_take_no_long_time(self):
        self.look_at_fits("*a" * 19 + "*b", ["a" * 1999 + "b"], ["a" * 2000, "a" * 18 + "b"])
        self.look_at_fits("*a" * 20, ["a" * 2000, "a" * 20], ["a" * 2000 + "b", "a" * 19])

    def test_every_short_one_against_trying_all(self):
        words = ["".join(word) for many in range(6) for word in itertools.product("ab", repeat=many)]
        for many in range(1, 5):
            for pattern in itertools.product("ab?*", repeat=many):
                pattern = "".join(pattern)
                for word in words:
                    self.assertIs(fits(pattern, word), plainly_fits(pattern, word), (pattern, word))

    def test_of_chance_against_plain_looking(self):
        chance = random.Random(41)
        for case in range(2000):
            pattern = "".join(chance.choices("abc0?*", k=chance.randint(1, 8)))
            word = "".join(chance.choices("abc0", k=chance.randrange(12)))
            looked = re.fullmatch(pattern.replace("?", ".").replace("*", ".*"), word)
            self.assertIs(fits(pattern, word), looked is not None, (pattern, word))


class Refused(unittest.TestCase):
    def setUp(self):
        house = House()
        house.put([("a", "old")])
        self.stand = house.now()

    def refused(self, pattern):
        for ask in (lambda: fits(pattern, ""), lambda: fits(pattern, "old"), lambda: fits(pattern, pattern),
                    lambda: words_like(self.stand, "a", pattern), lambda: words_like(self.stand, "other", pattern)):
            with self.assertRaises(NoPattern) as caught:
                ask()
            self.assertIs(type(caught.exception), NoPattern)

    def test_of_no_signs_or_too_many(self):
        for pattern in ("", "q" * 41, "*" * 41, "?" * 41, "q" * 2000):
            self.refused(pattern)

    def test_with_other_signs(self):
        for sign in SIGNS:
            if re.fullmatch("[a-z0-9?*]", sign):
                self.assertIs(fits(sign, "q"), sign in "q?*", sign)
            else:
                for pattern in (sign, "a" + sign, sign + "a", "*" + sign + "*", "a" * 39 + sign):
                    self.refused(pattern)

    def test_great_letters(self):
        for pattern in ("A", "oLd", "Old", "olD", "*Z"):
            self.refused(pattern)


class WordsLike(unittest.TestCase):
    def setUp(self):
        self.house = House()
        self.house.put([("body", "An old house, the older garden, cold"), ("title", "Old")])
        self.house.put([("body", "Gold 70 OLD 7 0ld"), ("note", " - ")])
        self.house.put([("body", "sold")])
        self.house.take(2)
        self.stand = self.house.now()

    def test_sorted_and_each_once(self):
        self.assertEqual(words_like(self.stand, "body", "*old"), ["cold", "gold", "old"])
        self.assertEqual(words_like(self.stand, "body", "*ol*"), ["cold", "gold", "old", "older"])
        self.assertEqual(words_like(self.stand, "body", "?ld"), ["0ld", "old"])
        self.assertEqual(words_like(self.stand, "body", "7*"), ["7", "70"])
        self.assertEqual(words_like(self.stand, "body", "old"), ["old"])
        self.assertEqual(words_like(self.stand, "title", "*"), ["old"])
        self.assertEqual(words_like(self.stand, "body", "*"), self.stand.words("body"))

    def test_none_that_fits(self):
        self.assertEqual(words_like(self.stand, "body", "sold"), [])
        self.assertEqual(words_like(self.stand, "title", "?"), [])

    def test_a_field_that_there_is_not(self):
        for field in ("other", "note", "", "*", "Body"):
            self.assertEqual(words_like(self.stand, field, "*"), [])

    def test_at_a_stamp_and_now(self):
        stamp = self.house.stamp()
        self.house.change(0, [("body", "told")])
        self.house.seal()
        self.assertEqual(words_like(self.house.now(), "body", "*old"), ["gold", "old", "told"])
        self.assertEqual(words_like(self.house.stand(stamp), "body", "*old"), ["cold", "gold", "old"])

    def test_the_told_list_is_the_askers_own(self):
        told = words_like(self.stand, "body", "*")
        self.assertIs(type(told), list)
        told.clear()
        self.assertEqual(words_like(self.stand, "body", "*old"), ["cold", "gold", "old"])
        self.assertEqual(words_like(self.stand, "body", "*"), self.stand.words("body"))


if __name__ == "__main__":
    unittest.main()
