"""The interface: each name is in its module, with the arguments that the document tells."""

import importlib
import inspect
import unittest

INTERFACE = """
words: look_at_document(document) words_of(text)
pieces: Piece(makes) Piece.makes() Piece.fields() Piece.words(field) Piece.postings(field,word)
pieces: Piece.length(make,field) stretches_of(postings)
packs: number_bytes(number) postings_bytes(postings) text_bytes(text) piece_bytes(piece)
packs: read_number(row) read_postings(row) read_text(row) read_piece(row)
pouring: poured(pieces,gone)
house: House() House.put(document) House.change(number,document) House.take(number) House.stamp() House.drop(stamp)
house: House.seal() House.pour(first,many) House.thin() House.pack(at) House.pieces() House.packed(at) House.stamps()
house: House.numbers() House.stand(stamp) House.now()
stands: Stand.documents() Stand.fields() Stand.words(field) Stand.postings(field,word) Stand.stretches(field,word)
stands: Stand.length(number,field) Stand.text(number,field) Stand.document(number) Stand.words_by_field(number)
patterns: fits(pattern,word) words_like(stand,field,pattern)
books: show_deed(deed) read_deed(line) house_of(lines)
asks: leaves_of(stand,question)
plainly: holds(fields,question) plain_answers(stand,question)
answers: answers_of(stand,question)
worths: weight_of(stand,field,word) part_of(stand,document,field,word) worth_of(stand,document,question)
worths: top_of(stand,field,word) best_of(stand,question,many)
early: early_best(stand,question,many) stretched_best(stand,question,many)
papers: paper_for(stand,document,question) best_paper(stand,question,many)
judge: judge_paper(stand,document,question,told,paper) judge_best(stand,question,many,paper)
changes: changed(older,newer,question)
asktexts: show_question(question) read_question(line)
papertexts: show_paper(paper) read_paper(line)
court: Court() Court.say(line)
"""


def arguments_of(found):
    told = list(inspect.signature(found).parameters)
    return told[1:] if told[:1] == ["self"] else told


class Interface(unittest.TestCase):
    def test_names_and_arguments(self):
        for row in INTERFACE.strip().split("\n"):
            module, names = row.split(": ")
            for name in names.split(" "):
                path, arguments = name.rstrip(")").split("(")
                found = importlib.import_module(f"findcourt.{module}")
                for part in path.split("."):
                    found = getattr(found, part)
                self.assertEqual(arguments_of(found), arguments.split(",") if arguments else [], name)


if __name__ == "__main__":
    unittest.main()
