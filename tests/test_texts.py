"""18.1: texts of kinds, programs and books; example e14."""

import random
import unittest

from lookspoil.greatest import greatest_book
from lookspoil.kinds import Kind
from lookspoil.programs import Program
from lookspoil.readers import reader
from lookspoil.stores import Book, Store
from lookspoil.texts import book_text, kind_text, program_text
from tests.samples import CORE, LONE, MIST, SLIP, STILL, WHEEL, many_kinds
from tests.worlds import BUSY_BOOK, PAIR, SHORT, TORN, mixed_cases, put_kinds


def kind_lines(kind):
    """The lines of a kind, word by word."""
    lines = []
    for standing in range(kind.size):
        line = "look"
        for answer, goal in kind.looks[standing]:
            line += " %d:%d" % (answer, goal)
        if kind.drifts[standing]:
            line += " drift"
        for goal in kind.drifts[standing]:
            line += " %d" % goal
        lines.append(line)
    for standing, torn in kind.puts:
        line = "put %d" % standing
        for goal in torn:
            line += " %d" % goal
        lines.append(line)
    return lines


def step_line(step):
    if step[0] == "look":
        return "look %d" % step[1] + "".join(" %d:%d" % pair for pair in step[2])
    return "put %d %d %d" % step[1:] if step[0] == "put" else "tell %d" % step[1]


def closed(lines):
    return "".join(line + "\n" for line in lines)


class Texts(unittest.TestCase):
    def test_e14(self):
        self.assertEqual(kind_text(CORE), "look 0:0\nlook 1:0\nput 0\nput 1 0\n")

    def test_kinds_with_drifts_and_marks(self):
        self.assertEqual(kind_text(MIST), "look 0:0 1:2 drift 1\nlook 0:1 2:0 drift 0\nlook 3:2 drift 2\nput 2 0 1 2\n")
        self.assertEqual(kind_text(SLIP), "look 5:0 drift 1\nlook 6:2 drift 2\nlook 7:2\n")
        self.assertEqual(kind_text(TORN), "look 0:0\nlook 1:0 drift 2\nlook 2:1 3:2\nput 1 0 2\nput 2\nput 0 0 1 2\n")
        self.assertEqual(kind_text(LONE), "look 4:0\n")
        self.assertEqual(kind_text(WHEEL), "look 0:1\nlook 0:2\nlook 1:0\n")
        full = Kind((((0, 0), (0, 1), (9, 0), (9, 1)), ((8, 1),)), ((0, 1), ()),
                    ((0, ()), (1, (0, 1)), (0, (1,)), (1, ())))
        self.assertEqual(kind_text(full),
                         "look 0:0 0:1 9:0 9:1 drift 0 1\nlook 8:1\nput 0\nput 1 0 1\nput 0 1\nput 1\n")

    def test_kinds_of_all_sorts(self):
        for kind in many_kinds() + put_kinds(30, "texts"):
            self.assertEqual(kind_text(kind), closed(kind_lines(kind)))

    def test_programs(self):
        self.assertEqual(program_text(SHORT), "look 0 0:1 1:2\ntell 0\ntell 1\n")
        steps = (("put", 0, 2, 1), ("look", 1, ((0, 2), (1, 3), (2, 2), (3, 3))), ("tell", 11), ("tell", 0))
        self.assertEqual(program_text(Program(PAIR, steps)), "put 0 2 1\nlook 1 0:2 1:3 2:2 3:3\ntell 11\ntell 0\n")
        for program, _ in mixed_cases(60, "texts"):
            self.assertEqual(program_text(program), closed(step_line(step) for step in program.steps))

    def test_a_program_of_more_than_400_places(self):
        made = reader(BUSY_BOOK)
        self.assertGreater(len(made.steps), 400)
        self.assertEqual(program_text(made), closed(step_line(step) for step in made.steps))

    def test_books(self):
        self.assertEqual(book_text(Book(Store((STILL,)), ((1,),))), "1\n")
        self.assertEqual(book_text(Book(Store((WHEEL, STILL)), ((2, 1), (0, 0), (2, 1)))), "2 1\n0 0\n2 1\n")
        for _, book in mixed_cases(30, "book texts"):
            self.assertEqual(book_text(book), closed(" ".join(map(str, layout)) for layout in book.layouts))

    def test_a_book_of_more_than_12_names(self):
        book = greatest_book(Store((STILL,) * 4))
        self.assertEqual(sorted(book_text(book).split("\n")[:-1]),
                         sorted(" ".join(format(number, "04b")) for number in range(16)))

    def test_equal_texts_for_equal_things_alone(self):
        chance = random.Random("equal texts")
        kinds = many_kinds()
        for _ in range(300):
            one, two = chance.choice(kinds), chance.choice(kinds)
            self.assertEqual(kind_text(one) == kind_text(two), one == two)


if __name__ == "__main__":
    unittest.main()
