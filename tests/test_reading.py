"""18.2: texts of kinds, programs and books, read."""

import random
import re
import unittest

from lookspoil.errors import BadBook, BadKind, BadProgram, BadText
from lookspoil.greatest import greatest_book
from lookspoil.kinds import Kind
from lookspoil.programs import Program
from lookspoil.readers import reader
from lookspoil.reading import read_book, read_kind, read_program
from lookspoil.stores import Book, Store
from lookspoil.texts import book_text, kind_text, program_text
from tests.samples import CORE, LONE, MIST, STILL, WHEEL, many_kinds, odd_things
from tests.worlds import BUSY_BOOK, PAIR, SHORT, chain, mixed_cases, put_kinds

NUMBER = "(?:0|[1-9][0-9]{0,8})"
PAIR_WORD = NUMBER + ":" + NUMBER
LOOK = re.compile(f"look((?: {PAIR_WORD})+)(?: drift((?: {NUMBER})+))?", re.ASCII)
PUT = re.compile(f"put ({NUMBER})((?: {NUMBER})*)", re.ASCII)
STEP = re.compile(f"look ({NUMBER})((?: {PAIR_WORD})+)|put ({NUMBER}) ({NUMBER}) ({NUMBER})|tell ({NUMBER})", re.ASCII)
LAYOUT = re.compile(f"{NUMBER}(?: {NUMBER})*", re.ASCII)


def numbers(text):
    return tuple(int(word) for word in re.findall("[0-9]+", text or ""))


def pairs(text):
    told = numbers(text)
    return tuple(zip(told[::2], told[1::2]))


def kind_found(text):
    """The kind of a text, or the error with its field, by other means."""
    looks, drifts, puts = [], [], []
    *lines, end = text.split("\n")
    for number, line in enumerate(lines, 1):
        look, put = LOOK.fullmatch(line), PUT.fullmatch(line)
        if look and not puts:
            looks.append(pairs(look[1]))
            drifts.append(numbers(look[2]))
        elif put and looks:
            puts.append((int(put[1]), numbers(put[2])))
        else:
            return BadText, number
    if end or not lines:
        return BadText, len(lines) + 1
    try:
        return Kind(tuple(looks), tuple(drifts), tuple(puts))
    except BadKind as error:
        return BadKind, error.part


def program_found(store, text):
    steps = []
    *lines, end = text.split("\n")
    for number, line in enumerate(lines, 1):
        step = STEP.fullmatch(line)
        if not step:
            return BadText, number
        if step[1]:
            steps.append(("look", int(step[1]), pairs(step[2])))
        else:
            steps.append(("put", int(step[3]), int(step[4]), int(step[5])) if step[3] else ("tell", int(step[6])))
    if end or not lines:
        return BadText, len(lines) + 1
    try:
        return Program(store, tuple(steps))
    except BadProgram as error:
        return BadProgram, error.part


def book_found(store, text):
    *lines, end = text.split("\n")
    for number, line in enumerate(lines, 1):
        if not LAYOUT.fullmatch(line):
            return BadText, number
    if end or not lines:
        return BadText, len(lines) + 1
    try:
        return Book(store, tuple(numbers(line) for line in lines))
    except BadBook:
        return BadBook, None


def outcome(call, *arguments):
    """What a call returns, or its error with the field."""
    try:
        return call(*arguments)
    except BadText as error:
        return BadText, error.line
    except (BadKind, BadProgram) as error:
        return type(error), error.part
    except BadBook:
        return BadBook, None


def changed(chance, text):
    """The text with some signs changed, put in or left out, or lines in other places."""
    for _ in range(chance.choice((1, 1, 1, 2, 3))):
        at = chance.randint(0, len(text))
        sign = chance.choice("0123456789 :\n\tlookputdriftell-+_|aA") if chance.random() < 0.8 else chance.choice(
            ("look ", "put ", " drift", "tell ", "\n\n", "  ", "00", "1234567890"))
        sort = chance.randrange(5)
        if sort == 0:
            text = text[:at] + sign + text[at:]
        elif sort == 1:
            text = text[:at] + text[at + 1:]
        elif sort == 2:
            text = text[:at] + sign + text[at + 1:]
        else:
            lines = text.split("\n")
            if sort == 3:
                chance.shuffle(lines)
            else:
                lines.insert(chance.randrange(len(lines)), chance.choice(lines))
            text = "\n".join(lines)
    return text


class Kinds(unittest.TestCase):
    def refuse(self, text, line):
        with self.assertRaises(BadText, msg=repr(text)[:200]) as caught:
            read_kind(text)
        self.assertEqual(caught.exception.line, line, text)
        self.assertIs(type(caught.exception.line), int)

    def test_what_was_written(self):
        for kind in many_kinds() + put_kinds(40, "reading"):
            made = read_kind(kind_text(kind))
            self.assertIs(type(made), Kind)
            self.assertTrue(made == kind)
            self.assertEqual(kind_text(made), kind_text(kind))

    def test_examples(self):
        self.assertTrue(read_kind("look 0:0\nlook 1:0\nput 0\nput 1 0\n") == CORE)
        mist = "look 0:0 1:2 drift 1\nlook 0:1 2:0 drift 0\nlook 3:2 drift 2\nput 2 0 1 2\n"
        self.assertTrue(read_kind(mist) == MIST)
        self.assertTrue(read_kind("look 4:0\n") == LONE)

    def test_no_string(self):
        for thing in odd_things() + [b"look 0:0\n", ["look 0:0\n"], ("look 0:0\n",)]:
            if not isinstance(thing, str):
                self.refuse(thing, 0)

    def test_the_first_wrong_line(self):
        right = "look 0:0 1:1 drift 0 1\n"
        put = "put 1 0\n"
        for line in ["", " ", "look", "look ", "look  0:0", " look 0:0", "look 0:0 ", "look 0:0  1:1", "look 0",
                     "look 0:",
                     "look :0", "look 0:0:0", "look 0:00", "look 00:0", "look +0:0", "look 0:-0", "look -1:0",
                     "look 01:1",
                     "look 1234567890:0", "look 0:1234567890", "look 0:0 drift", "look 0:0 drift ", "look drift 0",
                     "look drift", "look 0:0 drift 00", "look 0:0 drift 1 drift 0", "look 0:0 drift +1",
                     "look 0:0 drift 1:1",
                     "look 0:0 0", "look 0:0 1 drift 1", "look 0:0\t1:1", "look\t0:0", "Look 0:0", "looks 0:0",
                     "look 0:0 put 0",
                     "look 0:0 driftt 0", "look 0:0 Drift 0", "look 0:a", "look a:0", "look 0 0", "look 0: 0",
                     "look 0 :0",
                     "drift 0", "tell 0", "0", "0:0", "look 0:0 drift 1234567890", "look 1_0:0", "look 0:0,1:1",
                     "look 0;0",
                     "look 0:0 drift  1", "put", "put ", "put -1", "put 00", "put 0 ", "put  0", "put 0  1", "put 0 01",
                     "put 1234567890", "put 0 1234567890", "put 0:0", "put a", "put 0 a", "put 0 drift 1", "putt 0",
                     "look|0:0",
                     "put 0\t1", "put +0", "\t", "look 0:0 \t", "look 0x1:0", "look 1e3:0", "look 0.0:0"]:
            self.refuse(line + "\n", 1)
            self.refuse(right + line + "\n", 2)
            self.refuse(right * 3 + line + "\n" + right, 4)
            self.refuse(right + put + line + "\n" + put, 3)
            self.refuse(line + "\n" + line + "\n", 1)
            self.refuse(right + line + "\nand so on", 2)

    def test_put_and_look_lines_in_the_wrong_order(self):
        self.refuse("put 0\nlook 0:0\n", 1)
        self.refuse("put 0\n", 1)
        self.refuse("put 0\nput 0\n", 1)
        self.refuse("look 0:0\nput 0\nlook 0:0\n", 3)
        self.refuse("look 0:0\nput 0\nput 0\nlook 0:0\nput 0\nlook 0:0\n", 4)
        self.refuse("put 0\nlook\n", 1)

    def test_an_end_that_is_not_closed_and_no_line_at_all(self):
        self.refuse("", 1)
        self.refuse("look 0:0", 1)
        self.refuse("look 0:0\nlook 1:1", 2)
        self.refuse("look 0:0\n ", 2)
        self.refuse("look 0:0\nput 0", 2)
        self.refuse("look 0:0\nput 0\nnothing", 3)
        self.refuse(" ", 1)
        self.refuse("look 0:0\n\n", 2)
        self.refuse("\n", 1)
        self.refuse("look\nlook 0:0", 1)
        self.refuse("look 9:9\nlook 0:0", 2)

    def test_bad_kinds(self):
        for text, part in [
                ("look 0:1\n", "looks"), ("look 1:0 0:0\n", "looks"), ("look 0:0 0:0\n", "looks"),
                ("look 10:0\n", "looks"), ("look 0:0 1:0 2:0 3:0 4:0\n", "looks"), ("look 0:0\n" * 9, "looks"),
                ("look 999999999:0\n", "looks"), ("look 0:999999999\n", "looks"), ("look 0:0 drift 1\n", "drifts"),
                ("look 0:0 drift 0 0\n", "drifts"), ("look 0:0 drift 1 0\nlook 0:0\n", "drifts"),
                ("look 0:0 drift 999999999\n", "drifts"), ("look 0:0\nput 1\n", "puts"),
                ("look 0:0\nput 0 1\n", "puts"), ("look 0:0\nput 0 0 0\n", "puts"),
                ("look 0:0\n" + "put 0\n" * 5, "puts"), ("look 0:1 drift 5\nput 9\n", "looks"),
                ("look 0:0 drift 5\nput 9\n", "drifts"), ("look 0:0\nput 999999999\n", "puts")]:
            with self.assertRaises(BadKind, msg=text) as caught:
                read_kind(text)
            self.assertEqual(caught.exception.part, part)

    def test_bad_text_ahead_of_bad_kind(self):
        self.refuse("look 0:7\nlook\n", 2)
        self.refuse("look 0:7\nput 0", 2)
        self.refuse("look 0:7", 1)

    def test_by_chance(self):
        chance = random.Random("kind texts")
        kinds = many_kinds() + put_kinds(60, "chance texts")
        seen = {}
        for _ in range(40000):
            text = changed(chance, kind_text(chance.choice(kinds)))
            told, found = outcome(read_kind, text), kind_found(text)
            if isinstance(found, Kind):
                self.assertTrue(told == found, text)
                seen["kind"] = seen.get("kind", 0) + 1
            else:
                self.assertEqual(told, found, text)
                seen[found] = seen.get(found, 0) + 1
        for key in ["kind", (BadText, 1), (BadText, 2), (BadText, 3), (BadKind, "looks"), (BadKind, "drifts"),
                    (BadKind, "puts")]:
            self.assertGreater(seen.get(key, 0), 20, key)


class Programs(unittest.TestCase):
    def refuse(self, text, line, store=SHORT.store):
        with self.assertRaises(BadText, msg=repr(text)[:200]) as caught:
            read_program(store, text)
        self.assertEqual(caught.exception.line, line, text)

    def test_what_was_written(self):
        for program, _ in mixed_cases(100, "program texts"):
            made = read_program(program.store, program_text(program))
            self.assertIs(type(made), Program)
            self.assertTrue(made == program)
        self.assertTrue(read_program(SHORT.store, "look 0 0:1 1:2\ntell 0\ntell 1\n") == SHORT)
        self.assertTrue(read_program(SHORT.store, program_text(chain(SHORT.store, 400))) == chain(SHORT.store, 400))

    def test_no_string(self):
        for thing in odd_things() + [b"tell 0\n", ["tell 0\n"]]:
            if not isinstance(thing, str):
                self.refuse(thing, 0)

    def test_the_first_wrong_line(self):
        right = "look 0 0:2 1:3\n"
        for line in ["", "look", "look 0", "look 0 ", "look  0 0:1", "look 0:1 1:2", "look 0 0", "look 0 0:1 2",
                     "look 00 0:1",
                     "look 0 0:01", "look -0 0:1", "look 0 0:1 ", " look 0 0:1", "look 0 0:1  1:1", "look 0 0:1:2",
                     "look 1234567890 0:1", "look 0 0:1234567890", "put", "put 0", "put 0 0", "put 0 0 ", "put 0 0 1 1",
                     "put 0 0 01", "put 0 0 +1", "put 0 0 1 ", "put  0 0 1", "put 0 0:1", "put a 0 1",
                     "put 0 0 1234567890",
                     "tell", "tell ", "tell 0 0", "tell 00", "tell -1", "tell a", "tell 0 ", " tell 0", "tell  0",
                     "tell 0:0",
                     "tell 1234567890", "tells 0", "Tell 0", "0", "drift 0 1", "cut", "look 0 0:1 drift 0", "tell\t0"]:
            self.refuse(line + "\n", 1)
            self.refuse(right + line + "\ntell 0\n", 2)
            self.refuse(right + right + line + "\n" + line, 3)

    def test_an_end_that_is_not_closed_and_no_line_at_all(self):
        for text, line in [("", 1), ("tell 0", 1), ("tell 0\ntell 1", 2), ("tell 0\n ", 2), ("tell 0\n\n", 2),
                           ("\n", 1),
                           ("tell 99\ntell 0\nput", 3)]:
            self.refuse(text, line)

    def test_bad_programs(self):
        for text, part in [
                ("tell 12\n", 0), ("tell 0\nlook 0 0:1 1:1\n", 1), ("look 0 0:1\ntell 0\n", 0),
                ("look 1 0:1 1:1\ntell 0\n", 0), ("look 0 1:1 0:1\ntell 0\n", 0), ("look 0 0:1 1:2\ntell 0\n", 0),
                ("put 0 2 1\ntell 0\n", 0), ("put 0 0 1\ntell 99\n", 1), ("tell 0\n" * 401, "steps"),
                ("put 0 0 1\nput 0 1 1\ntell 0\n", 1), ("tell 999999999\n", 0), ("look 999999999 0:1\ntell 0\n", 0)]:
            with self.assertRaises(BadProgram, msg=text[:50]) as caught:
                read_program(SHORT.store, text)
            self.assertEqual(caught.exception.part, part)

    def test_bad_text_ahead_of_bad_program(self):
        self.refuse("tell 99\ntell\n", 2)
        self.refuse("tell 0\n" * 401 + "tell", 402)

    def test_only_what_is_constructed_is_bounded(self):
        made = reader(BUSY_BOOK)
        with self.assertRaises(BadProgram) as caught:
            read_program(made.store, program_text(made))
        self.assertEqual(caught.exception.part, "steps")

    def test_by_chance(self):
        chance = random.Random("program texts")
        programs = [program for program, _ in mixed_cases(60, "chance programs")]
        seen = {}
        for _ in range(20000):
            program = chance.choice(programs)
            text = changed(chance, program_text(program))
            told, found = outcome(read_program, program.store, text), program_found(program.store, text)
            key = found if isinstance(found, tuple) else "program"
            self.assertTrue(told == found, (text, told, found))
            seen[key] = seen.get(key, 0) + 1
        for key in ["program", (BadText, 1), (BadText, 2), (BadText, 3), (BadProgram, 0), (BadProgram, 1)]:
            self.assertGreater(seen.get(key, 0), 20, key)


class Books(unittest.TestCase):
    def refuse(self, text, line):
        with self.assertRaises(BadText, msg=repr(text)[:200]) as caught:
            read_book(PAIR, text)
        self.assertEqual(caught.exception.line, line, text)

    def test_what_was_written(self):
        for _, book in mixed_cases(60, "book texts"):
            made = read_book(book.store, book_text(book))
            self.assertIs(type(made), Book)
            self.assertTrue(made == book)
        twelve = Book(Store((WHEEL, STILL)), ((2, 1),) * 12)
        self.assertTrue(read_book(twelve.store, "2 1\n" * 12) == twelve)

    def test_no_string(self):
        for thing in odd_things() + [b"0 0\n", ["0 0\n"]]:
            if not isinstance(thing, str):
                self.refuse(thing, 0)

    def test_the_first_wrong_line(self):
        for line in ["", " ", "0 ", " 0", "0  1", "00", "0 01", "-0 1", "0 +1", "a", "0 a", "0:1", "0,1", "0\t1",
                     "1234567890",
                     "0 1234567890", "0 1 ", "tell 0", "0|1", "1_0"]:
            self.refuse(line + "\n", 1)
            self.refuse("0 0\n" + line + "\n0 0\n", 2)
            self.refuse("0 0\n1\n" + line + "\n" + line, 3)

    def test_an_end_that_is_not_closed_and_no_line_at_all(self):
        for text, line in [("", 1), ("0 0", 1), ("0 0\n0 0", 2), ("0 0\n ", 2), ("0 0\n\n", 2), ("\n", 1),
                           ("9 9\n0", 2)]:
            self.refuse(text, line)

    def test_bad_books(self):
        for text in ["0\n", "0 0 0\n", "0 3\n", "3 0\n", "0 0\n0 999999999\n", "0 0\n" * 13, "0 0\n0\n"]:
            with self.assertRaises(BadBook, msg=text):
                read_book(PAIR, text)

    def test_only_what_is_constructed_is_bounded(self):
        book = greatest_book(Store((STILL,) * 4))
        with self.assertRaises(BadBook):
            read_book(book.store, book_text(book))

    def test_by_chance(self):
        chance = random.Random("book texts")
        books = [book for _, book in mixed_cases(60, "chance books")]
        seen = {}
        for _ in range(8000):
            book = chance.choice(books)
            text = changed(chance, book_text(book))
            told, found = outcome(read_book, book.store, text), book_found(book.store, text)
            key = found if isinstance(found, tuple) else "book"
            self.assertTrue(told == found, (text, told, found))
            seen[key] = seen.get(key, 0) + 1
        for key in ["book", (BadText, 1), (BadText, 2), (BadText, 3), (BadBook, None)]:
            self.assertGreater(seen.get(key, 0), 20, key)


if __name__ == "__main__":
    unittest.main()
