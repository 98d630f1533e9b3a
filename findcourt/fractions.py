"""Fractions: tuples (top, bottom) of whole numbers in lowest terms, bottom from 1 on."""


def greatest_divisor(one, other):
    greater = abs(one)
    smaller = abs(other)
    while smaller > 0:
        rest = greater % smaller
        greater = smaller
        smaller = rest
    return greater


def fraction_of(top, bottom):
    if bottom == 0:
        raise ZeroDivisionError("no fraction has the bottom 0")
    divisor = greatest_divisor(top, bottom)
    if bottom < 0:
        divisor = -divisor
    return (top // divisor, bottom // divisor)


def added(one, other):
    return fraction_of(one[0] * other[1] + other[0] * one[1], one[1] * other[1])


def multiplied(one, other):
    return fraction_of(one[0] * other[0], one[1] * other[1])


def sum_of(fractions):
    total = (0, 1)
    for fraction in fractions:
        total = added(total, fraction)
    return total


def is_less(one, other):
    return one[0] * other[1] < other[0] * one[1]
