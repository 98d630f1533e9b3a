"""Questions as text: each is written as a line, and read back from it."""

from findcourt.asks import ANY_FIELD
from findcourt.errors import NoText
from findcourt.lines import Scan, look_at_depth, next_list, next_name, next_word
from findcourt.patterns import MOST_PATTERN_SIGNS, is_pattern_sign

MOST_WORD_SIGNS = 40
MOST_WORDS = 6
MOST_WIDTH = 20
SIGNS = {"both": "&", "one": "|"}
BRACKETS = {"near": "<>", "chain": "[]"}


def is_bare(pattern):
    return "?" not in pattern and "*" not in pattern


def show_asked(question):
    kind = question[0]
    if kind == "word":
        return question[2]
    if kind == "like":
        return "~" + question[2] if is_bare(question[2]) else question[2]
    words = " ".join(question[-1])
    if kind == "row":
        return f'"{words}"'
    return str(question[2]) + BRACKETS[kind][0] + words + BRACKETS[kind][1]


def show_parts(sign, parts):
    if not parts:
        return f"({sign})"
    if len(parts) == 1:
        return f"({sign} " + parts[0] + ")"
    between = f" {sign} "
    return "(" + between.join(parts) + ")"


def show_question(question):
    kind = question[0]
    if kind == "not":
        return "!" + show_question(question[1])
    if kind in SIGNS:
        return show_parts(SIGNS[kind], [show_question(part) for part in question[1]])
    return question[1] + ":" + show_asked(question)


def next_asked_word(scan):
    word = next_word(scan)
    if len(word) > MOST_WORD_SIGNS:
        raise NoText("a word of too many signs")
    return word


def next_words(scan, end):
    words = next_list(scan, " ", next_asked_word)
    if len(words) > MOST_WORDS:
        raise NoText("too many words")
    scan.pass_over(end)
    return words


def width_of(shown):
    for width in range(1, MOST_WIDTH + 1):
        if shown == str(width):
            return width
    raise NoText("no width")


def next_asked(scan):
    field = ANY_FIELD if scan.passes(ANY_FIELD) else next_name(scan)
    scan.pass_over(":")
    if scan.passes("\""):
        return ("row", field, next_words(scan, "\""))
    if scan.passes("~"):
        return ("like", field, next_asked_word(scan))
    shown = scan.signs_while(is_pattern_sign)
    for kind in BRACKETS:
        if scan.passes(BRACKETS[kind][0]):
            return (kind, field, width_of(shown), next_words(scan, BRACKETS[kind][1]))
    if not 1 <= len(shown) <= MOST_PATTERN_SIGNS:
        raise NoText("no word and no pattern")
    return ("word" if is_bare(shown) else "like", field, shown)


def next_none_or_one(scan, kind, deep):
    # Behind the bracket: of none and of a single one the sign stands first.
    scan.pass_over(SIGNS[kind])
    if scan.passes(")"):
        return (kind, [])
    scan.pass_over(" ")
    part = next_question(scan, deep)
    scan.pass_over(")")
    return (kind, [part])


def next_bracket(scan, deep):
    for kind in SIGNS:
        if scan.sees(SIGNS[kind]):
            return next_none_or_one(scan, kind, deep)
    parts = [next_question(scan, deep)]
    kind = "both" if scan.sees(" & ") else "one"
    between = " " + SIGNS[kind] + " "
    # Two at least, else the sign would stand first.
    scan.pass_over(between)
    parts.extend(next_list(scan, between, lambda behind: next_question(behind, deep)))
    scan.pass_over(")")
    return (kind, parts)


def next_question(scan, deep):
    look_at_depth(deep)
    if scan.passes("!"):
        return ("not", next_question(scan, deep + 1))
    if scan.passes("("):
        return next_bracket(scan, deep + 1)
    return next_asked(scan)


def read_question(line):
    scan = Scan(line)
    question = next_question(scan, 1)
    scan.look_at_end()
    return question
