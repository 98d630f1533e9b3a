"""Pieces poured together into one."""

from findcourt.errors import NoMake
from findcourt.pieces import piece_of_parts


def look_at_shared_makes(pieces):
    seen = {}
    shared = []
    for piece in pieces:
        for make in piece.makes():
            if make in seen:
                shared.append(make)
            seen[make] = True
    if shared:
        raise NoMake(min(shared))


def add_field_postings(by_field, piece, field, kept):
    for word in piece.words(field):
        found = [(kept[make], places) for make, places in piece.postings(field, word) if make in kept]
        # A word of makes that are left out alone is none of the new piece, nor is its field.
        if found:
            by_field.setdefault(field, {}).setdefault(word, []).extend(found)


def add_field_lengths(lengths, piece, field, kept):
    for make in piece.makes():
        if make in kept:
            lengths[(kept[make], field)] = piece.length(make, field)


def in_order(by_field):
    ordered = {}
    for field in by_field:
        ordered[field] = {}
        for word in by_field[field]:
            # No make stands twice, so the places are never set against each other.
            ordered[field][word] = sorted(by_field[field][word])
    return ordered


def gathered(pieces, kept):
    # kept is a dict from the makes that stay to the makes that they are from now on.
    by_field = {}
    lengths = {}
    for piece in pieces:
        for field in piece.fields():
            add_field_postings(by_field, piece, field, kept)
            add_field_lengths(lengths, piece, field, kept)
    return piece_of_parts(sorted(kept.values()), in_order(by_field), lengths)


def poured(pieces, gone):
    look_at_shared_makes(pieces)
    left_out = {}
    for make in gone:
        left_out[make] = True
    kept = {}
    for piece in pieces:
        for make in piece.makes():
            if make not in left_out:
                kept[make] = make
    return gathered(pieces, kept)
