"""Worths: what documents are worth for a question, and the best so many."""

from findcourt.answers import answers_of
from findcourt.asks import leaves_of
from findcourt.fractions import fraction_of, is_less, multiplied, sum_of
from findcourt.marks import marked


def words_in_all(stand, field):
    return sum([stand.length(number, field) for number in stand.documents()])


# Weights, parts and worths for some leaves, with what is asked of the stand for them asked once.
class Scale:
    def __init__(self, source, leaves):
        self.source = source
        self.leaves = leaves
        self.many_documents = len(source.documents())
        self.totals = {}
        self.weights = {}
        # How often each leaf stands in each document that has it, and the leaves of each document.
        self.times = {}
        self.leaves_by_number = {}
        for leaf in leaves:
            self.add_leaf(leaf)

    def add_leaf(self, leaf):
        field = leaf[0]
        if field not in self.totals:
            self.totals[field] = words_in_all(self.source, field)
        postings = self.source.postings(field, leaf[1])
        self.weights[leaf] = fraction_of(self.many_documents + 1, len(postings) + 1)
        self.times[leaf] = {}
        for number, places in postings:
            self.times[leaf][number] = len(places)
            self.leaves_by_number.setdefault(number, []).append(leaf)

    def part(self, number, field, times):
        # t / (t + 1/2 + l / (2 m)), with m the total by the number of documents.
        total = self.totals[field]
        length = self.source.length(number, field)
        return fraction_of(2 * times * total, (2 * times + 1) * total + length * self.many_documents)

    def worth(self, number):
        # Leaves of one field that stand there equally often have one part: their weights come first.
        weights = {}
        for leaf in self.leaves_by_number.get(number, []):
            weights.setdefault((leaf[0], self.times[leaf][number]), []).append(self.weights[leaf])
        return sum_of([multiplied(sum_of(weights[key]), self.part(number, key[0], key[1])) for key in weights])

    def top(self, leaf):
        greatest = (0, 1)
        for number in self.times[leaf]:
            part = self.part(number, leaf[0], self.times[leaf][number])
            if is_less(greatest, part):
                greatest = part
        return multiplied(self.weights[leaf], greatest)

    def tops(self):
        return [self.top(leaf) for leaf in self.leaves]

    def strong_numbers(self, weak):
        # The documents that have some leaf which is not weak; where none is weak, all of them.
        if not weak:
            return self.source.documents()
        is_weak = marked(weak)
        found = {}
        for leaf in self.leaves:
            if leaf not in is_weak:
                found.update(self.times[leaf])
        return sorted(found)


def scale_of(stand, question):
    return Scale(stand, leaves_of(stand, question))


def weight_of(stand, field, word):
    return Scale(stand, [(field, word)]).weights[(field, word)]


def part_of(stand, document, field, word):
    scale = Scale(stand, [(field, word)])
    times = scale.times[(field, word)].get(document, 0)
    return scale.part(document, field, times) if times > 0 else (0, 1)


def worth_of(stand, document, question):
    return scale_of(stand, question).worth(document)


def top_of(stand, field, word):
    return Scale(stand, [(field, word)]).top((field, word))


def comes_ahead(one, other):
    # Of tuples that begin with a document and its worth.
    if one[1] == other[1]:
        return one[0] < other[0]
    return is_less(other[1], one[1])


def put_in_order(best, entry):
    begin = 0
    end = len(best)
    while begin < end:
        middle = (begin + end) // 2
        if comes_ahead(best[middle], entry):
            begin = middle + 1
        else:
            end = middle
    best.insert(begin, entry)


def best_of(stand, question, many):
    scale = scale_of(stand, question)
    best = []
    for number in answers_of(stand, question):
        put_in_order(best, (number, scale.worth(number)))
    return best[:many]
