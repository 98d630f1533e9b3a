"""Fractions: tuples (top, bottom) of whole numbers in lowest terms, bottom from 1 on."""


def greatest_divisor(one, other):
    greater = abs(one)
    smaller = abs(other)
    while smaller > 0:
        rest = greater % smaller
        greater = smaller
        smaller = rest
    return greater


def fraction_of(top, bottom):
    if bottom == 0:
        raise ZeroDivisionError("no fraction has the bottom 0")
    divisor = greatest_divisor(top, bottom)
    if bottom < 0:
        divisor = -divisor
    return (top // divisor, bottom // divisor)


def multiplied(one, other):
    return fraction_of(one[0] * other[0], one[1] * other[1])


def common_bottom(fractions):
    bottom = 1
    for fraction in fractions:
        bottom = bottom // greatest_divisor(bottom, fraction[1]) * fraction[1]
    return bottom


def tops_over(bottom, fractions):
    return [fraction[0] * (bottom // fraction[1]) for fraction in fractions]


def sum_of(fractions):
    # Brought to lowest terms once, not with each step: that is what takes long with great numbers.
    bottom = common_bottom(fractions)
    return fraction_of(sum(tops_over(bottom, fractions)), bottom)


def is_less(one, other):
    return one[0] * other[1] < other[0] * one[1]
