"""Papers as text: each is written as a line, and read back from it."""

from findcourt.errors import NoText
from findcourt.lines import Scan, look_at_depth, next_list, next_name, next_number, next_word
from findcourt.words import is_small_letter

NONE = "-"
# What stands behind the first text, in order.
YES_FORMS = {
    "at": ("name", "number"),
    "fits": ("name", "word", "number"),
    "from": ("name", "number"),
    "places": ("name", "places"),
    "all": ("yes-papers",),
    "this": ("number", "yes-paper"),
    "no": ("no-paper",),
}
NO_FORMS = {
    "lacks": (),
    "broken": ("broken",),
    "thin": ("thin",),
    "late": ("late",),
    "fails": ("number", "no-paper"),
    "none": ("no-papers",),
    "yes": ("yes-paper",),
}


def show_list(between, shown):
    return between.join(shown) if shown else NONE


def show_places(places):
    return ",".join([str(place) for place in places])


def show_entry(entry):
    # A chain is a list; of a broken or thin one there is a place, and what lacks there.
    if isinstance(entry, list):
        return show_places(entry)
    return str(entry[0]) + "@" + str(entry[1])


def show_row(row):
    return row[0] + ":" + show_list("/", [show_entry(entry) for entry in row[1]])


def show_part(kind, part):
    if kind in ("name", "word", "number"):
        return str(part)
    if kind == "places":
        return show_places(part)
    if kind in ("yes-paper", "no-paper"):
        return "(" + show_paper(part) + ")"
    if kind in ("yes-papers", "no-papers"):
        return show_list("", ["(" + show_paper(paper) + ")" for paper in part])
    return show_list(";", [show_row(row) for row in part])


def show_paper(paper):
    first = paper[0]
    form = YES_FORMS[first] if first in YES_FORMS else NO_FORMS[first]
    return " ".join([first] + [show_part(kind, part) for kind, part in zip(form, paper[1:])])


def next_places(scan):
    return next_list(scan, ",", next_number)


def next_broken(scan):
    place = next_number(scan)
    scan.pass_over("@")
    return (place, next_number(scan))


def next_thin(scan):
    place = next_number(scan)
    scan.pass_over("@")
    return (place, next_word(scan))


def next_entry(scan, kind):
    if kind == "broken":
        return next_broken(scan)
    if kind == "thin":
        return next_thin(scan)
    return next_places(scan)


def next_row(scan, kind):
    field = next_name(scan)
    scan.pass_over(":")
    if scan.passes(NONE):
        return (field, [])
    return (field, next_list(scan, "/", lambda behind: next_entry(behind, kind)))


def next_rows(scan, kind):
    if scan.passes(NONE):
        return []
    return next_list(scan, ";", lambda behind: next_row(behind, kind))


def next_within(scan, is_yes, deep):
    scan.pass_over("(")
    paper = next_paper(scan, is_yes, deep)
    scan.pass_over(")")
    return paper


def next_papers(scan, is_yes, deep):
    if scan.passes(NONE):
        return []
    papers = [next_within(scan, is_yes, deep)]
    while scan.sees("("):
        papers.append(next_within(scan, is_yes, deep))
    return papers


def next_part(scan, kind, deep):
    if kind == "name":
        return next_name(scan)
    if kind == "word":
        return next_word(scan)
    if kind == "number":
        return next_number(scan)
    if kind == "places":
        return next_places(scan)
    if kind in ("yes-paper", "no-paper"):
        return next_within(scan, kind == "yes-paper", deep)
    if kind in ("yes-papers", "no-papers"):
        return next_papers(scan, kind == "yes-papers", deep)
    return next_rows(scan, kind)


def form_of(first, is_yes):
    if is_yes and first in YES_FORMS:
        return YES_FORMS[first]
    if not is_yes and first in NO_FORMS:
        return NO_FORMS[first]
    raise NoText("no paper of this sort")


def next_paper(scan, is_yes, deep):
    look_at_depth(deep)
    first = scan.signs_while(is_small_letter)
    parts = [first]
    for kind in form_of(first, is_yes):
        scan.pass_over(" ")
        parts.append(next_part(scan, kind, deep + 1))
    return tuple(parts)


def read_paper(line):
    scan = Scan(line)
    # No first text is one of both sorts, so it tells which sort the paper is of.
    paper = next_paper(scan, line.split(" ")[0] in YES_FORMS, 1)
    scan.look_at_end()
    return paper
