"""The desk, at which all is told by lines."""

from lookspoil.benches import Bench
from lookspoil.books import check_name, kept
from lookspoil.borne import cuts_borne
from lookspoil.errors import Ended, NoMove, NoneLed, NothingDone, NoWord
from lookspoil.greatest import most_names
from lookspoil.judging import refutation
from lookspoil.lines import parts_of_line
from lookspoil.pairs import apart
from lookspoil.programs import check_same_store
from lookspoil.readers import reader
from lookspoil.reading import read_book, read_kind, read_program
from lookspoil.stores import Store

SORTS = ("kind", "store", "book", "program")
# The sort, and the word, under which the run that is led is kept.
LED = "led"


def kind_made(things):
    """The kind of a text."""
    return read_kind(things[0])


def store_made(things):
    """The store of kinds."""
    return Store(tuple(things))


def book_made(things):
    """The book of a store and a text."""
    return read_book(things[0], things[1])


def program_made(things):
    """The program of a store and a text."""
    return read_program(things[0], things[1])


def reader_made(things):
    """The reader of a book, or None."""
    return reader(things[0])


# What is made of the things behind a new word, to be kept under that.
MAKERS = {
    "kind": kind_made, "store": store_made, "book": book_made, "program": program_made, "reader": reader_made}


def apart_told(things):
    """Whether two standings of a kind are apart."""
    return yes_or_no(apart(things[0], things[1], things[2]))


def kept_told(things):
    """Whether a book is kept."""
    return yes_or_no(kept(things[0]))


def most_told(things):
    """How many names a book of a store can have."""
    return str(most_names(things[0]))


def keeps_told(things):
    """Whether a program keeps a book."""
    return yes_or_no(refutation(things[0], things[1]) is None)


def cuts_told(things):
    """How many cuts a program bears for a book."""
    cuts = cuts_borne(things[0], things[1])
    return "any" if cuts is None else str(cuts)


# What is told of things and changes nothing.
TOLD = {"apart": apart_told, "kept": kept_told, "most": most_told, "keeps": keeps_told, "cuts": cuts_told}


class Desk:
    """What is kept under words, and the run that is led."""

    def __init__(self):
        self._kept = {sort: {} for sort in SORTS + (LED,)}
        # For each line that can be taken back the triples (sort, word, what was
        # there, or None) that take it back, or None for a move of the run.
        self._done = []

    def tell(self, line):
        """Do what the line says, and return what there is to tell of it."""
        head, parts = parts_of_line(line)
        things = [self._thing(sort, word) for sort, word in parts]
        if head in MAKERS:
            return self._make(head, things)
        if head in TOLD:
            action = TOLD[head]
            return action(things)
        if head == "names":
            return " ".join(sorted(self._kept["book"])) if self._kept["book"] else "none"
        if head == "drop":
            return self._drop(things[0])
        if head == "begin":
            return self._begin(things[0], things[1], things[2])
        if head == "where":
            return self._where()
        if head == "undo":
            return self._undo()
        return self._move(head[len("do "):], things)

    def undoable(self):
        """How many lines can be taken back."""
        return len(self._done)

    def _thing(self, sort, word):
        """What a word of a line stands for."""
        if sort == "number":
            return int(word)
        if sort == "text":
            return word.replace("|", "\n")
        if sort not in SORTS:
            return word
        if word not in self._kept[sort]:
            raise NoWord(word)
        return self._kept[sort][word]

    def _make(self, head, things):
        action = MAKERS[head]
        made = action(things[1:])
        if made is None:
            return "none"
        return self._change([("program" if head == "reader" else head, things[0], made)])

    def _drop(self, word):
        changes = [(sort, word, None) for sort in SORTS if word in self._kept[sort]]
        if len(changes) == 0:
            raise NoWord(word)
        return self._change(changes)

    def _begin(self, program, book, name):
        check_same_store(program, book)
        check_name(book, name)
        return self._change([(LED, LED, (program, Bench(program, book.layouts[name])))])

    def _where(self):
        _, bench = self._led()
        return " ".join([str(number) for number in (bench.place,) + bench.layout()])

    def _move(self, word, numbers):
        program, bench = self._led()
        if bench.name() is not None:
            raise Ended()
        answer = bench.do(move_told(word, numbers, program.steps[bench.place][0]))
        self._done.append(None)
        if bench.name() is not None:
            return "told " + str(bench.name())
        return "ok" if answer is None else str(answer)

    def _undo(self):
        if len(self._done) == 0:
            raise NothingDone()
        changes = self._done.pop()
        if changes is None:
            self._led()[1].back(1)
        else:
            self._put(changes)
        return "ok"

    def _led(self):
        """The program and the bench of the run that is led."""
        if LED not in self._kept[LED]:
            raise NoneLed()
        return self._kept[LED][LED]

    def _change(self, changes):
        """Keep or drop things for a line that can be taken back."""
        self._done.append([(sort, word, self._kept[sort].get(word)) for sort, word, _ in changes])
        self._put(changes)
        return "ok"

    def _put(self, changes):
        """Put things under words, each told by a triple (sort, word, thing); None drops what is there."""
        for sort, word, thing in changes:
            if thing is None:
                del self._kept[sort][word]
            else:
                self._kept[sort][word] = thing


def yes_or_no(flag):
    """The word for a flag."""
    return "yes" if flag else "no"


def move_told(word, numbers, step):
    """The move that a do line tells, where a step of this word stands."""
    if word not in ("look", "put"):
        return (word,) + tuple(numbers)
    if word != step:
        raise NoMove()
    return ("step", numbers[0]) if word == "look" else ("step", 0)
