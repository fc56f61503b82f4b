"""19 and 19.2: the desk."""

import random
import re
import unittest

from lookspoil.benches import Bench
from lookspoil.books import kept
from lookspoil.borne import cuts_borne
from lookspoil.desks import Desk
from lookspoil.errors import (
    Ended, NoLine, NoMove, NoName, NoneLed, NothingDone, NoWord, OtherStore, SpoilError)
from lookspoil.greatest import most_names
from lookspoil.judging import table
from lookspoil.pairs import apart
from lookspoil.readers import reader
from lookspoil.reading import read_book, read_kind, read_program
from lookspoil.stores import Store
from lookspoil.texts import book_text, kind_text, program_text
from tests.samples import CORE, STILL, odd_things
from tests.worlds import BUSY, BUSY_BOOK, THREE

CORE_TEXT = "look 0:0|look 1:0|put 0|put 1 0|"
LINES = [
    "kind core " + CORE_TEXT, "kind still look 0:0|look 1:1|", "store one core", "store two still core",
    "book b one 0|1|", "book c two 0 0|1 1|", "program p one look 0 0:1 1:2|tell 0|tell 1|",
    "program q two look 0 0:1 1:2|tell 0|tell 1|", "program r one put 0 1 1|look 0 0:2 1:3|tell 0|tell 1|"]


def led(*lines):
    """A desk at which these lines, behind those above, have been told."""
    desk = Desk()
    for line in [*LINES, *lines]:
        desk.tell(line)
    return desk


def outcome(desk, line):
    """What the desk returns, or the error with its fields."""
    try:
        return desk.tell(line)
    except SpoilError as error:
        return type(error).__name__, *vars(error).values()


PROBES = [
    "names", "where", "kept b", "kept c", "kept d", "most one", "most two", "keeps p b", "keeps q c", "keeps r b",
    "cuts p b", "cuts q c", "cuts r b", "apart core 0 1", "apart still 0 1", "apart b 0 1", "keeps b b", "cuts d d",
    "most d", "most b", "apart d 0 1"]


def state(desk):
    """All that lines which change nothing tell of a desk."""
    return [desk.undoable()] + [outcome(desk, line) for line in PROBES]


class Keeping(unittest.TestCase):
    def test_kinds(self):
        desk = Desk()
        self.assertEqual(desk.tell("kind core " + CORE_TEXT), "ok")
        self.assertEqual(desk.tell("apart core 0 1"), "no")
        self.assertEqual(desk.tell("kind z look 0:0|look 1:1|"), "ok")
        self.assertEqual(desk.tell("apart z 0 1"), "yes")
        self.assertEqual(desk.tell("apart z 1 1"), "no")
        self.assertEqual(desk.tell("kind abcdefgh look 0:0 drift 0|"), "ok")
        self.assertEqual(desk.tell("apart abcdefgh 0 0"), "no")

    def test_stores(self):
        desk = led()
        self.assertEqual(desk.tell("store s still still still"), "ok")
        self.assertEqual(desk.tell("most s"), "8")
        self.assertEqual(desk.tell("store s " + " ".join(["still"] * 5)), "ok")
        self.assertEqual(desk.tell("most s"), "32")
        self.assertEqual(desk.tell("store s core"), "ok")
        self.assertEqual(desk.tell("most s"), "1")

    def test_books_and_programs(self):
        desk = led()
        self.assertEqual([desk.tell("kept " + word) for word in "bc"], ["no", "yes"])
        self.assertEqual(desk.tell("book x two 1 0|0 1|"), "ok")
        self.assertEqual(desk.tell("kept x"), "yes")
        self.assertEqual([desk.tell("keeps p b"), desk.tell("keeps q c"), desk.tell("keeps r b")], ["no", "yes", "no"])
        self.assertEqual([desk.tell("cuts p b"), desk.tell("cuts q c"), desk.tell("cuts r b")], ["0", "any", "-1"])
        self.assertEqual(desk.tell("program q two tell 5|"), "ok")
        self.assertEqual([desk.tell("keeps q c"), desk.tell("cuts q c")], ["no", "-1"])

    def test_names(self):
        desk = Desk()
        self.assertEqual(desk.tell("names"), "none")
        desk = led()
        self.assertEqual(desk.tell("names"), "b c")
        for word in ("zz", "a", "bb", "aa", "names", "b"):
            desk.tell("book " + word + " one 0|")
        self.assertEqual(desk.tell("names"), "a aa b bb c names zz")
        desk.tell("drop b")
        self.assertEqual(desk.tell("names"), "a aa bb c names zz")

    def test_each_sort_apart(self):
        desk = Desk()
        for line in ["kind x look 0:0|look 1:1|", "store x x", "book x x 0|1|",
                     "program x x look 0 0:1 1:2|tell 0|tell 1|"]:
            self.assertEqual(desk.tell(line), "ok")
        asked = ["apart x 0 1", "most x", "kept x", "keeps x x", "cuts x x", "names"]
        self.assertEqual([desk.tell(line) for line in asked], ["yes", "2", "yes", "yes", "any", "x"])
        self.assertEqual(desk.tell("kind x look 0:0|"), "ok")
        self.assertEqual([desk.tell("most x"), desk.tell("kept x")], ["2", "yes"])

    def test_kept_things_replaced(self):
        desk = led()
        self.assertEqual(desk.tell("kind core look 0:0|look 1:1|"), "ok")
        self.assertEqual(desk.tell("apart core 0 1"), "yes")
        # Stores, books and programs stay as they are.
        self.assertEqual([desk.tell("most one"), desk.tell("kept b"), desk.tell("keeps p b")], ["1", "no", "no"])
        desk.tell("store one core")
        self.assertEqual([desk.tell("most one"), desk.tell("kept b")], ["2", "no"])
        with self.assertRaises(OtherStore):
            led("kind core look 0:0|look 1:1|", "store one core", "book b one 0|1|").tell("keeps p b")

    def test_drop(self):
        desk = led("kind b look 0:0|", "store b core", "program b one tell 0|", "begin p b 1")
        self.assertEqual(desk.tell("drop b"), "ok")
        for line in ("kept b", "apart b 0 0", "most b", "keeps b c", "drop b"):
            self.assertEqual(outcome(desk, line), ("NoWord", "b"))
        self.assertEqual(desk.tell("drop core"), "ok")
        self.assertEqual(desk.tell("drop one"), "ok")
        self.assertEqual(desk.tell("drop p"), "ok")
        # What was made of them, and what is led, stays.
        self.assertEqual([desk.tell("most two"), desk.tell("kept c"), desk.tell("where")], ["2", "yes", "0 1"])
        self.assertEqual(desk.tell("do look 0"), "told 1")

    def test_reader(self):
        desk = led()
        self.assertEqual(desk.tell("reader m c"), "ok")
        self.assertEqual([desk.tell("keeps m c"), desk.tell("cuts m c")], ["yes", "any"])
        before = desk.undoable()
        self.assertEqual(desk.tell("reader n b"), "none")
        self.assertEqual(outcome(desk, "keeps n b"), ("NoWord", "n"))
        self.assertEqual(desk.tell("reader m b"), "none")
        self.assertEqual(desk.tell("keeps m c"), "yes")
        self.assertEqual(desk.undoable(), before)
        desk.tell("begin m c 1")
        while True:
            told = outcome(desk, "do look 0")
            if told.startswith("told"):
                break
        self.assertEqual(told, "told 1")

    def test_a_reader_of_more_than_400_places(self):
        desk = Desk()
        for word, kind in [("three", THREE), ("busy", BUSY)]:
            desk.tell("kind " + word + " " + kind_text(kind).replace("\n", "|"))
        desk.tell("store s three busy busy")
        desk.tell("book b s " + book_text(BUSY_BOOK).replace("\n", "|"))
        self.assertEqual(desk.tell("reader r b"), "ok")
        self.assertEqual(desk.tell("begin r b 7"), "ok")
        for _ in range(len(reader(BUSY_BOOK).steps)):
            told = desk.tell("do look 0")
            if told.startswith("told"):
                break
        self.assertEqual(told, "told 7")
        self.assertEqual(desk.tell("cuts r b"), "any")

    def test_texts_as_they_are_written(self):
        desk = led()
        for kind in (CORE, STILL, BUSY, THREE):
            desk.tell("kind k " + kind_text(kind).replace("\n", "|"))
            self.assertEqual([desk.tell("apart k 0 %d" % at) for at in range(kind.size)],
                             ["yes" if apart(kind, 0, at) else "no" for at in range(kind.size)])
        made = read_program(Store((CORE,)), "put 0 0 1\ntell 9\n")
        desk.tell("program m one " + program_text(made).replace("\n", "|"))
        self.assertEqual([desk.tell(line) for line in ["begin m b 1", "do put", "where"]], ["ok", "told 9", "1 0"])


class Leading(unittest.TestCase):
    def test_looks(self):
        desk = led()
        self.assertEqual(desk.tell("begin p b 1"), "ok")
        self.assertEqual(desk.tell("where"), "0 1")
        self.assertEqual(desk.tell("do spoilt 0"), "1")
        self.assertEqual(desk.tell("where"), "0 0")
        self.assertEqual(desk.tell("do cut"), "ok")
        self.assertEqual(desk.tell("do look 0"), "told 0")
        self.assertEqual(desk.tell("where"), "1 0")

    def test_a_look_behind_which_the_run_goes_on(self):
        desk = led("program x one look 0 0:1 1:1|look 0 0:2 1:3|tell 0|tell 1|", "begin x b 1")
        self.assertEqual([desk.tell("do look 0"), desk.tell("where"), desk.tell("do look 0")], ["1", "1 0", "told 0"])

    def test_puts(self):
        desk = led("begin r b 0")
        self.assertEqual([desk.tell("do torn 0"), desk.tell("where")], ["ok", "0 0"])
        self.assertEqual([desk.tell("do put"), desk.tell("where")], ["ok", "1 1"])
        self.assertEqual([desk.tell("do look 0"), desk.tell("where")], ["told 1", "3 0"])

    def test_drifts_and_outcomes(self):
        desk = led("kind mist look 0:0 1:2 drift 1|look 0:1 2:0 drift 0|look 3:2 drift 2|", "store s still mist",
                   "book d s 1 0|", "program x s look 1 0:1 1:1 2:1 3:2|tell 3|tell 11|", "begin x d 0")
        lines = [
            "do drift 1 1", "where", "do spoilt 1", "where", "do spoilt 1", "where", "do drift 1 2", "do look 0", "where"]
        self.assertEqual([desk.tell(line) for line in lines],
                         ["ok", "0 1 1", "2", "0 1 0", "1", "0 1 2", "ok", "told 11", "2 1 2"])

    def test_moves_that_can_not_be_made(self):
        desk = led("begin p b 1")
        for line in ["do put", "do torn 0", "do look 1", "do spoilt 1", "do drift 0 0", "do drift 9 9",
                     "do look 999999999"]:
            self.assertEqual(outcome(desk, line), ("NoMove",), line)
        self.assertEqual(desk.tell("where"), "0 1")
        desk = led("begin r b 1")
        for line in ["do look 0", "do spoilt 0", "do torn 1", "do drift 0 1"]:
            self.assertEqual(outcome(desk, line), ("NoMove",), line)
        self.assertEqual([desk.tell("do put"), outcome(desk, "do put"), outcome(desk, "do torn 0")],
                         ["ok", ("NoMove",), ("NoMove",)])

    def test_ended(self):
        desk = led("begin p b 1", "do look 0")
        for line in ["do look 0", "do put", "do cut", "do spoilt 0", "do torn 0", "do drift 0 0", "do look 7"]:
            self.assertEqual(outcome(desk, line), ("Ended",), line)
        self.assertEqual(desk.tell("where"), "2 0")
        # Where place 0 is a tell the run has ended as soon as it is begun.
        desk = led("program x one tell 4|")
        self.assertEqual([desk.tell("begin x b 0"), desk.tell("where"), outcome(desk, "do cut")],
                         ["ok", "0 0", ("Ended",)])

    def test_none_led(self):
        desk = led()
        for line in ["where", "do look 0", "do put", "do cut", "do spoilt 0", "do torn 0", "do drift 0 0"]:
            self.assertEqual(outcome(desk, line), ("NoneLed",), line)
        desk.tell("begin p b 0")
        desk.tell("undo")
        self.assertEqual(outcome(desk, "where"), ("NoneLed",))

    def test_another_one_is_led_from_now_on(self):
        desk = led("begin p b 1", "do spoilt 0", "begin r b 1")
        self.assertEqual(desk.tell("where"), "0 1")
        self.assertEqual(desk.tell("do put"), "ok")
        self.assertEqual([desk.tell("undo"), desk.tell("undo"), desk.tell("where")], ["ok", "ok", "0 0"])
        self.assertEqual([desk.tell("undo"), desk.tell("where"), desk.tell("do look 0")], ["ok", "0 1", "told 1"])

    def test_long_runs(self):
        desk = led("begin p b 1")
        for _ in range(3000):
            self.assertEqual(desk.tell("do cut"), "ok")
        self.assertEqual(desk.undoable(), len(LINES) + 3001)
        for _ in range(3000):
            desk.tell("undo")
        self.assertEqual(desk.tell("where"), "0 1")


class Undoing(unittest.TestCase):
    MORE = [
        "kind core look 0:0|look 1:1|", "kind d look 0:0|look 1:1|", "store one still", "store d still",
        "book b two 0 1|1 0|", "book d one 0|", "program p two tell 0|", "program d one tell 0|", "reader p c",
        "reader d c", "drop core", "drop d", "drop p", "drop two", "begin q c 1", "do spoilt 0", "do cut", "do look 0",
        "begin r b 1", "begin q c 0", "do look 0"]

    def test_line_by_line_back_to_the_beginning(self):
        desk = Desk()
        states = [state(desk)]
        for line in LINES + self.MORE:
            told = outcome(desk, line)
            if isinstance(told, tuple):
                self.assertEqual(state(desk), states[-1], line)
            else:
                states.append(state(desk))
        self.assertGreater(len(states), len(LINES) + 15)
        while len(states) > 1:
            self.assertEqual(state(desk), states.pop())
            self.assertEqual(desk.tell("undo"), "ok")
        self.assertEqual(state(desk), states.pop())
        self.assertEqual(desk.undoable(), 0)
        with self.assertRaises(NothingDone):
            desk.tell("undo")

    def test_each_sort_of_line(self):
        for line in ["kind x look 0:0|", "kind core look 0:0|", "store x core", "store one core core", "book x one 0|",
                     "book b one 1|", "program x one tell 0|", "program p one tell 0|", "drop b", "drop core",
                     "reader x c",
                     "reader p c", "begin r b 0", "do spoilt 0", "do cut", "do look 0"]:
            desk = led("begin p b 1", "kind b look 0:0|look 1:1|")
            before = state(desk)
            self.assertNotIsInstance(outcome(desk, line), tuple, line)
            self.assertEqual(desk.undoable(), before[0] + 1, line)
            self.assertEqual(desk.tell("undo"), "ok")
            self.assertEqual(state(desk), before, line)

    def test_what_asks_is_not_taken_back(self):
        desk = led("begin p b 1")
        many = desk.undoable()
        for line in ["names", "where", "kept b", "most one", "keeps p b", "cuts p b", "apart core 0 1", "reader x b"]:
            desk.tell(line)
            self.assertEqual(desk.undoable(), many, line)
        self.assertEqual(many, len(LINES) + 1)
        desk.tell("undo")
        self.assertEqual(outcome(desk, "where"), ("NoneLed",))

    def test_undo_is_not_taken_back(self):
        desk = led()
        desk.tell("drop b")
        desk.tell("undo")
        desk.tell("undo")
        self.assertEqual(desk.undoable(), len(LINES) - 1)
        self.assertEqual(outcome(desk, "keeps r b"), ("NoWord", "r"))
        desk.tell("drop c")
        self.assertEqual(desk.undoable(), len(LINES))
        desk.tell("undo")
        self.assertEqual(desk.tell("kept c"), "yes")

    def test_a_dropped_word_of_all_sorts_comes_back(self):
        desk = led("kind b look 0:0|look 1:1|", "store b still still", "program b one tell 0|")
        before = [outcome(desk, line) for line in ["apart b 0 1", "most b", "keeps b b", "kept b"]]
        desk.tell("drop b")
        desk.tell("undo")
        self.assertEqual([outcome(desk, line) for line in ["apart b 0 1", "most b", "keeps b b", "kept b"]], before)
        self.assertEqual(before, ["yes", "4", "no", "no"])

    def test_nothing_done(self):
        desk = Desk()
        for _ in range(3):
            with self.assertRaises(NothingDone):
                desk.tell("undo")
        desk.tell("names")
        self.assertEqual(outcome(desk, "undo"), ("NothingDone",))
        self.assertEqual(desk.undoable(), 0)

    def test_two_desks_are_apart(self):
        one, two = led(), Desk()
        self.assertEqual([two.tell("names"), two.undoable()], ["none", 0])
        one.tell("undo")
        self.assertEqual(outcome(two, "undo"), ("NothingDone",))


class Errors(unittest.TestCase):
    def check(self, desk, line, *error):
        before = state(desk)
        self.assertEqual(outcome(desk, line), error, repr(line)[:200])
        self.assertEqual(state(desk), before, repr(line)[:200])

    def test_no_line(self):
        desk = led("begin p b 1")
        wrong = [
            "", " ", "  ", "\n", "nothing", "Names", "names ", " names", "names\n", "names\t", "names b", "undo ",
            "undo b", "undo 1", "where ", "where 0", "kind", "kind ", "kind x", "kind x ", "kind  x look 0:0|",
            "kind X look 0:0|", "kind abcdefghi look 0:0|", "kind x1 look 0:0|", "kind 1 look 0:0|",
            "kind x look 0:0|\n", "kind x look 0:0\n", " kind x look 0:0|", "kind\tx look 0:0|", "kind x\tlook 0:0|",
            "kind x-y look 0:0|", "store", "store x", "store x ", "store x core ", "store x  core",
            "store x core core core core core core", "store X core", "store x Core", "store x core 1", "store x core\n",
            "store abcdefghi core", "store x coreabcde", "book", "book x", "book x one", "book x one ", "book X one 0|",
            "book x 1 0|", "book x  0|", "book x ONE 0|", "book x one\n0|", "program", "program x", "program x one",
            "program x one ", "program x1 one tell 0|", "program x o_ne tell 0|", "drop", "drop ", "drop b c",
            "drop  b", "drop B", "drop b ", "drop 0", "drop abcdefghi", "apart", "apart core", "apart core 0",
            "apart core 0 ", "apart core 0 1 ", "apart core 0 1 2", "apart core  0 1", "apart core 00 1",
            "apart core 0 01", "apart core -0 1", "apart core +0 1", "apart core a b", "apart core 0 1234567890",
            "apart Core 0 1", "apart core 0:1", "apart core 0,1", "apart core 1.0 1", "kept", "kept ", "kept b ",
            "kept b c", "kept 0", "kept  b", "most", "most one two", "most one ", "keeps", "keeps p", "keeps p ",
            "keeps p b c", "keeps p  b", "cuts", "cuts p", "cuts p b 0", "reader", "reader x", "reader x ",
            "reader x c c", "reader X c", "reader x C", "begin", "begin p", "begin p b", "begin p b ", "begin p b 0 0",
            "begin p b 00", "begin p b -1", "begin p b x", "begin p b 1234567890", "begin p  b 0", "do", "do ",
            "do look", "do look ", "do look 0 0", "do look a", "do look 00", "do look -1", "do  look 0", "do look  0",
            "do put 0", "do put ", "do cut 0", "do cut ", "do spoilt", "do spoilt 0 0", "do torn", "do torn x",
            "do drift", "do drift 0", "do drift 0 0 0", "do drift 0 ", "do drift 00 0", "do drift 0 1234567890",
            "do step 0", "do nothing", "do Look 0", "do look 0\n", "dolook 0", "do look\t0", "look 0", "put", "cut",
            "told 1", "ok"]
        for line in wrong:
            self.check(desk, line, "NoLine")
        for thing in odd_things() + [b"names", ["names"], ("names",)]:
            self.check(desk, thing, "NoLine")
        for line in wrong:
            self.assertEqual(outcome(Desk(), line), ("NoLine",), line)

    def test_the_first_word_of_which_there_is_nothing(self):
        desk = led("begin p b 1")
        for line, word in [
                ("store x core nox noy", "nox"), ("store x one core", "one"), ("store x nox one", "nox"),
                ("book x b 0|", "b"), ("book x nox |", "nox"), ("program x p tell 0|", "p"),
                ("program x core tell", "core"), ("drop nox", "nox"), ("apart one 0 1", "one"),
                ("apart nox 7 7", "nox"), ("kept one", "one"), ("kept p", "p"), ("most core", "core"), ("most b", "b"),
                ("keeps b p", "b"), ("keeps p p", "p"), ("keeps nox noy", "nox"), ("keeps p noy", "noy"),
                ("cuts core b", "core"), ("cuts p core", "core"), ("cuts nox noy", "nox"), ("reader x p", "p"),
                ("reader p one", "one"), ("begin b p 0", "b"), ("begin p p 0", "p"), ("begin nox noy 9", "nox"),
                ("begin p noy 9", "noy"), ("kept led", "led"), ("drop led", "led"),
                ("store x core core core core zzzzzzzz", "zzzzzzzz")]:
            self.check(desk, line, "NoWord", word)

    def test_bad_texts_and_what_they_tell(self):
        desk = led("begin p b 1")
        for line, error in [
                ("kind x look 0:0", ("BadText", 1)), ("kind x |", ("BadText", 1)), ("kind x  ", ("BadText", 1)),
                ("kind x  look 0:0|", ("BadText", 1)), ("kind x look 0:0|look 1:1", ("BadText", 2)),
                ("kind x look 0:0|put 0|look 0:0|", ("BadText", 3)), ("kind core nothing", ("BadText", 1)),
                ("kind x look 0:0| ", ("BadText", 2)), ("kind x look 0:0||", ("BadText", 2)),
                ("kind x look\t0:0|", ("BadText", 1)),
                ("kind x look 0:1|", ("BadKind", "looks")), ("kind x look 0:0 drift 2|", ("BadKind", "drifts")),
                ("kind core look 0:0|put 1|", ("BadKind", "puts")), ("book x one 0|1", ("BadText", 2)),
                ("book x one 0 |", ("BadText", 1)),
                ("book b one 0|2|", ("BadBook",)), ("book x two 0|", ("BadBook",)), ("book x one  0|", ("BadText", 1)),
                ("program x one tell 0", ("BadText", 1)), ("program x one tell|", ("BadText", 1)),
                ("program p one tell 12|", ("BadProgram", 0)),
                ("program x one look 0 0:1 1:1|put 0 2 2|tell 0|", ("BadProgram", 1)),
                ("program x one " + "tell 0|" * 401, ("BadProgram", "steps"))]:
            self.check(desk, line, *error)

    def test_what_the_functions_raise(self):
        desk = led("kind e " + "".join("look %d:%d|" % (at, at) for at in range(8)), "store l e e still", "begin p b 1")
        for line, error in [
                ("apart core 2 0", "NoStanding"), ("apart core 0 2", "NoStanding"),
                ("apart core 999999999 0", "NoStanding"), ("keeps p c", "OtherStore"), ("keeps q b", "OtherStore"),
                ("cuts p c", "OtherStore"), ("cuts q b", "OtherStore"), ("begin p b 2", "NoName"),
                ("begin p b 999999999", "NoName"), ("begin p c 0", "OtherStore"), ("begin p c 9", "OtherStore")]:
            self.check(desk, line, error)
        self.check(desk, "most l", "TooLarge", 64)

    def test_the_order_of_errors(self):
        desk = led()
        # A line of no form ahead of words of which there is nothing; these ahead of texts.
        self.check(desk, "keeps nox", "NoLine")
        self.check(desk, "store x nox ", "NoLine")
        self.check(desk, "book x nox nothing", "NoWord", "nox")
        self.check(desk, "program x nox nothing", "NoWord", "nox")
        self.check(desk, "begin p nox 9", "NoWord", "nox")
        self.check(desk, "do nothing", "NoLine")
        self.check(desk, "do look 00", "NoLine")
        self.check(desk, "do look 7", "NoneLed")
        self.check(desk, "book x one 9|x|", "BadText", 2)
        desk.tell("begin p b 0")
        desk.tell("do look 0")
        self.check(desk, "do put", "Ended")


WORDS = ["core", "still", "one", "two", "b", "c", "p", "q", "x"]


class Model:
    """The desk by other means: forms by patterns, and all that there was ahead of each line kept aside."""

    FORMS = [
        ("kind", "kind (W) (T)"), ("store", "store (W)((?: W){1,5})"), ("book", "book (W) (W) (T)"),
        ("program", "program (W) (W) (T)"), ("drop", "drop (W)"), ("names", "names"), ("apart", "apart (W) (N) (N)"),
        ("kept", "kept (W)"), ("most", "most (W)"), ("keeps", "keeps (W) (W)"), ("cuts", "cuts (W) (W)"),
        ("reader", "reader (W) (W)"), ("begin", "begin (W) (W) (N)"), ("look", "do look (N)"), ("put", "do put"),
        ("cut", "do cut"), ("spoilt", "do spoilt (N)"), ("torn", "do torn (N)"), ("drift", "do drift (N) (N)"),
        ("where", "where"), ("undo", "undo")]

    def __init__(self):
        self.now = {"kind": {}, "store": {}, "book": {}, "program": {}, "led": None}
        self.elder = []

    def thing(self, sort, word):
        if word not in self.now[sort]:
            raise NoWord(word)
        return self.now[sort][word]

    def tell(self, line):
        for name, form in self.FORMS:
            form = form.replace("W", "[a-z]{1,8}").replace("N", "0|[1-9][0-9]{0,8}").replace("T", "[^\n]+")
            found = re.fullmatch(form, line)
            if found:
                before = {sort: dict(things) if things and sort != "led" else things or {} for sort,
                          things in self.now.items()}
                if self.now["led"]:
                    before["led"] = (self.now["led"][0], self.now["led"][1].copy())
                else:
                    before["led"] = None
                told, changed = getattr(self, "do_" + name, None)(*found.groups()) if name not in (
                    "look", "put", "cut", "spoilt", "torn", "drift") else self.move(name, *map(int, found.groups()))
                if changed:
                    self.elder.append(before)
                return told
        raise NoLine()

    def keep(self, sort, word, thing):
        self.now[sort][word] = thing
        return "ok", True

    def do_kind(self, word, text):
        return self.keep("kind", word, read_kind(text.replace("|", "\n")))

    def do_store(self, word, kinds):
        return self.keep("store", word, Store(tuple(self.thing("kind", kind) for kind in kinds.split())))

    def do_book(self, word, store, text):
        return self.keep("book", word, read_book(self.thing("store", store), text.replace("|", "\n")))

    def do_program(self, word, store, text):
        return self.keep("program", word, read_program(self.thing("store", store), text.replace("|", "\n")))

    def do_drop(self, word):
        if not any([self.now[sort].pop(word, None) for sort in ("kind", "store", "book", "program")]):
            raise NoWord(word)
        return "ok", True

    def do_names(self):
        return " ".join(sorted(self.now["book"])) or "none", False

    def do_apart(self, kind, one, two):
        return "yes" if apart(self.thing("kind", kind), int(one), int(two)) else "no", False

    def do_kept(self, book):
        return "yes" if kept(self.thing("book", book)) else "no", False

    def do_most(self, store):
        return str(most_names(self.thing("store", store))), False

    def do_keeps(self, program, book):
        return "yes" if table(self.thing("program", program), self.thing("book", book)) else "no", False

    def do_cuts(self, program, book):
        told = cuts_borne(self.thing("program", program), self.thing("book", book))
        return "any" if told is None else str(told), False

    def do_reader(self, word, book):
        made = reader(self.thing("book", book))
        return self.keep("program", word, made) if made else ("none", False)

    def do_begin(self, program, book, name):
        program, book = self.thing("program", program), self.thing("book", book)
        if program.store != book.store:
            raise OtherStore()
        if int(name) >= len(book.layouts):
            raise NoName()
        self.now["led"] = (program, Bench(program, book.layouts[int(name)]))
        return "ok", True

    def move(self, word, *numbers):
        if not self.now["led"]:
            raise NoneLed()
        program, bench = self.now["led"]
        step = program.steps[bench.place][0]
        move = {"look": ("step", *numbers), "put": ("step", 0)}.get(word, (word, *numbers))
        if step == "tell":
            raise Ended()
        if word in ("look", "put") and word != step:
            raise NoMove()
        told = bench.do(move)
        if bench.name() is not None:
            return "told %d" % bench.name(), True
        return "ok" if told is None else str(told), True

    def do_where(self):
        if not self.now["led"]:
            raise NoneLed()
        bench = self.now["led"][1]
        return " ".join(map(str, (bench.place, *bench.layout()))), False

    def do_undo(self):
        if not self.elder:
            raise NothingDone()
        self.now = self.elder.pop()
        return "ok", False

    def undoable(self):
        return len(self.elder)


def chance_line(chance):
    """A line, mostly of a right form, with words of which there may be something."""
    def word(*liked):
        return chance.choice(liked if chance.random() < 0.8 else WORDS)

    def number():
        return str(chance.choice((0, 0, 0, 1, 1, 2)))

    kind, store, book, program = word("core", "still"), word("one", "two"), word("b", "c", "x"), word("p", "q", "x")
    lines = {
        "kind": [kind, chance.choice((CORE_TEXT, "look 0:0|look 1:1|", "look 0:0 1:1|look 1:1 2:0 drift 0|put 1 0 1|",
                                      "look 0:1|"))],
        "store": [store, *[word("core", "still") for _ in range(chance.choice((1, 1, 2)))]],
        "book": [book, store, chance.choice(("0|1|", "1|0|", "0 0|1 1|", "0 1|1 0|0 0|", "0|", "0"))],
        "program": [program, store, chance.choice((
            "look 0 0:1 1:2|tell 0|tell 1|", "look 0 0:1 1:1|put 0 0 2|tell 1|", "look 1 0:1 1:2|tell 0|tell 1|",
            "tell 0|", "put 0 1 1|look 0 0:2 1:3|tell 0|tell 1|"))],
        "drop": [chance.choice(WORDS)], "names": [], "apart": [kind, number(), number()], "kept": [book],
        "most": [store],
        "keeps": [program, book], "cuts": [program, book], "reader": [program, book],
        "begin": [program, book, number()],
        "where": [], "undo": []}
    if chance.random() < 0.4:
        move = chance.choice(("look", "look", "look", "put", "put", "cut", "spoilt", "spoilt", "torn", "drift"))
        many = {"put": 0, "cut": 0, "drift": 2}.get(move, 1)
        return " ".join(["do", move] + [number() for _ in range(many)])
    head = chance.choice([*lines, "begin", "begin", "program", "book"])
    line = " ".join([head, *lines[head]])
    return line if chance.random() < 0.95 else line + " "


class ByChance(unittest.TestCase):
    def test_against_other_means(self):
        seen = {}
        for seed in range(60):
            chance = random.Random(seed)
            desk, model = Desk(), Model()
            for line in LINES[:chance.choice((0, 9, 9, 9))] + [chance_line(chance) for _ in range(150)]:
                told = outcome(desk, line)
                self.assertEqual(told, outcome(model, line), (seed, line))
                self.assertEqual(desk.undoable(), model.undoable(), (seed, line))
                key = (line.split(" ")[0], told[0] if isinstance(told, tuple) else told.split(" ")[0])
                seen[key] = seen.get(key, 0) + 1
            self.assertEqual(state(desk), state(model))
            while model.undoable():
                self.assertEqual(outcome(desk, "undo"), outcome(model, "undo"))
                self.assertEqual(outcome(desk, "where"), outcome(model, "where"))
            self.assertEqual(state(desk), state(model))
        for key in [
                ("do", "told"), ("do", "ok"), ("do", "0"), ("do", "1"), ("do", "Ended"), ("do", "NoMove"),
                ("do", "NoneLed"), ("begin", "ok"), ("begin", "NoName"), ("begin", "OtherStore"), ("undo", "ok"),
                ("reader", "ok"), ("reader", "none"), ("drop", "ok"), ("drop", "NoWord"), ("keeps", "yes"),
                ("keeps", "no"), ("cuts", "any"), ("cuts", "0"), ("cuts", "-1"), ("book", "BadBook"),
                ("book", "BadText"), ("program", "BadProgram"), ("kind", "BadKind"), ("kind", "ok"), ("apart", "yes"),
                ("apart", "no"), ("apart", "NoStanding"), ("most", "1"), ("most", "2"), ("kept", "yes"), ("kept", "no"),
                ("store", "ok"), ("names", "none"), ("where", "0"), ("where", "NoneLed"), ("kept", "NoWord")]:
            self.assertGreater(seen.get(key, 0), 2, key)


if __name__ == "__main__":
    unittest.main()
