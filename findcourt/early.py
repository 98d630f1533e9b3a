"""The best so many told early: answers that bounds bar from being among them are not looked at."""

from findcourt.answers import answers_of
from findcourt.fractions import common_bottom, is_less, multiplied, tops_over
from findcourt.worths import put_in_order, scale_of

# Bounds are a tuple of a dict from numbers to whole numbers and the bottom that these are over:
# so they are added and put in order as whole numbers.


def bounds_by_tops(scale):
    tops = scale.tops()
    bottom = common_bottom(tops)
    bounds = {}
    for leaf, share in zip(scale.leaves, tops_over(bottom, tops)):
        for number in scale.times[leaf]:
            bounds[number] = bounds.get(number, 0) + share
    return (bounds, bottom)


def stretch_tops(scale):
    # The first and the last number of each stretch, and what its leaf brings there at the most.
    found = []
    for leaf in scale.leaves:
        for first, last, most in scale.source.stretches(leaf[0], leaf[1]):
            found.append((first, last, multiplied(scale.weights[leaf], (2 * most, 2 * most + 1))))
    return found


def bounds_by_stretches(scale, numbers):
    stretches = stretch_tops(scale)
    tops = [top for first, last, top in stretches]
    bottom = common_bottom(tops)
    bounds = {}
    for stretch, share in zip(stretches, tops_over(bottom, tops)):
        for number in numbers:
            if stretch[0] <= number <= stretch[1]:
                bounds[number] = bounds.get(number, 0) + share
    return (bounds, bottom)


def is_barred(number, worth, all_bounds):
    # A bound that is no more than alike bars nothing: of like worths the lesser number comes first.
    return any([is_less((bounds.get(number, 0), bottom), worth) for bounds, bottom in all_bounds])


def look_through(scale, answers, many, all_bounds):
    bounds = all_bounds[0][0]
    best = []
    looked = []
    # Those with the greatest bounds first, since great worths found early bar the most.
    for number in sorted(answers, key=lambda one: -bounds.get(one, 0)):
        if not best or len(best) < many or not is_barred(number, best[-1][1], all_bounds):
            looked.append(number)
            put_in_order(best, (number, scale.worth(number)))
            best = best[:many]
    return (best, sorted(looked))


def early_best(stand, question, many):
    scale = scale_of(stand, question)
    return look_through(scale, answers_of(stand, question), many, [bounds_by_tops(scale)])


def stretched_best(stand, question, many):
    scale = scale_of(stand, question)
    answers = answers_of(stand, question)
    return look_through(scale, answers, many, [bounds_by_tops(scale), bounds_by_stretches(scale, answers)])
