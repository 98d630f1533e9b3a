"""The court: a house that is told its deeds, and asked, by lines of text."""

from findcourt.answers import answers_of
from findcourt.asktexts import read_question
from findcourt.books import do_deed, read_deed, read_figures
from findcourt.changes import changed
from findcourt.errors import NoLine, NoText
from findcourt.house import House
from findcourt.judge import judge_paper
from findcourt.papers import paper_for
from findcourt.papertexts import read_paper, show_paper
from findcourt.plainly import holds
from findcourt.worths import best_of

MOST_BEST = 20
NONE = "none"
NOW = "now"
# What stands between the name and the question, in order.
ASKS = {
    "ask": ("when",),
    "best": ("when", "many"),
    "shown": ("when", "number"),
    "why": ("when", "number"),
    "judge": ("when", "number", "told"),
    "came": ("when", "when"),
}


def read_when(shown):
    return None if shown == NOW else read_figures(shown)


def read_many(shown):
    many = read_figures(shown)
    if not 1 <= many <= MOST_BEST:
        raise NoLine("no number of best ones")
    return many


def read_told(shown):
    if shown not in ("yes", "no"):
        raise NoLine("neither yes nor no")
    return shown == "yes"


def read_part(kind, shown):
    if kind == "when":
        return read_when(shown)
    if kind == "many":
        return read_many(shown)
    if kind == "told":
        return read_told(shown)
    return read_figures(shown)


def read_paper_and_question(shown):
    halves = shown.split(" = ")
    if len(halves) != 2:
        raise NoLine("no paper and question")
    return [read_paper(halves[0]), read_question(halves[1])]


def read_asked(name, shown):
    try:
        return read_paper_and_question(shown) if name == "judge" else [read_question(shown)]
    except NoText:
        raise NoLine("no question, or no paper") from None


def read_ask(line):
    name = line.split(" ")[0]
    kinds = ASKS[name]
    # Questions and papers have blanks too, so no more is parted than there are things ahead of them.
    shown = line.split(" ", len(kinds) + 1)
    if len(shown) < len(kinds) + 2:
        raise NoLine("too little behind the name")
    return [name] + [read_part(kind, part) for kind, part in zip(kinds, shown[1:])] + read_asked(name, shown[-1])


def show_numbers(numbers):
    return " ".join([str(number) for number in numbers]) or NONE


def show_truth(truth):
    return "yes" if truth else "no"


def show_worth(worth):
    return str(worth[0]) if worth[1] == 1 else str(worth[0]) + "/" + str(worth[1])


def show_best(best):
    return "; ".join([str(number) + " " + show_worth(worth) for number, worth in best]) or NONE


def show_why(told):
    return show_truth(told[0]) + " " + show_paper(told[1])


class Court:
    def __init__(self):
        self.house = House()

    def stand_when(self, when):
        return self.house.now() if when is None else self.house.stand(when)

    def answered(self, asked):
        name = asked[0]
        question = asked[-1]
        stand = self.stand_when(asked[1])
        if name == "ask":
            return show_numbers(answers_of(stand, question))
        if name == "best":
            return show_best(best_of(stand, question, asked[2]))
        if name == "shown":
            return show_truth(holds(stand.words_by_field(asked[2]), question))
        if name == "why":
            return show_why(paper_for(stand, asked[2], question))
        if name == "judge":
            return "right" if judge_paper(stand, asked[2], question, asked[3], asked[4]) else "wrong"
        told = changed(stand, self.stand_when(asked[2]), question)
        return show_numbers(told[0]) + " / " + show_numbers(told[1])

    def say(self, line):
        if line.split(" ")[0] in ASKS:
            return self.answered(read_ask(line))
        told = do_deed(self.house, read_deed(line))
        return "ok" if told is None else str(told)
