"""Texts of kinds, programs and books, read."""

from lookspoil.errors import BadText
from lookspoil.kinds import Kind
from lookspoil.programs import Program
from lookspoil.stores import Book
from lookspoil.words import numbers_of, pairs_of


def read_kind(text):
    """The kind that the text tells."""
    lines = lines_told(text, kind_line)
    looks = [line for line in lines if line[0] == "look"]
    puts = [line for line in lines if line[0] == "put"]
    return Kind(
        tuple([line[1] for line in looks]), tuple([line[2] for line in looks]),
        tuple([(line[1], line[2]) for line in puts]))


def read_program(store, text):
    """The program of the store that the text tells."""
    return Program(store, tuple(lines_told(text, program_line)))


def read_book(store, text):
    """The book of the store that the text tells."""
    return Book(store, tuple(lines_told(text, book_line)))


def lines_told(text, read):
    """What read tells of each line, by its words and what was told of the lines ahead: None of a wrong one."""
    if not isinstance(text, str):
        raise BadText(0)
    lines = text.split("\n")
    told = []
    for line in lines[:-1]:
        found = read(line.split(" "), told)
        if found is None:
            raise BadText(len(told) + 1)
        told.append(found)
    if lines[-1] != "" or len(told) == 0:
        raise BadText(len(lines))
    return told


def kind_line(words, ahead):
    """What a line of a kind tells: its first word, and two tuples, or a number and a tuple."""
    if words[0] == "look" and "put" not in [line[0] for line in ahead[-1:]]:
        return standing_told(words[1:])
    if words[0] == "put" and len(ahead) > 0:
        numbers = numbers_of(words[1:])
        return None if numbers is None or len(numbers) == 0 else ("put", numbers[0], numbers[1:])
    return None


def standing_told(words):
    """What the words of a look line tell: the outcomes, and the standings behind the word drift, if that is there."""
    end = words.index("drift") if "drift" in words else len(words)
    outcomes = pairs_of(words[:end])
    goals = numbers_of(words[end + 1:])
    if outcomes is None or goals is None or len(outcomes) == 0:
        return None
    if end < len(words) and len(goals) == 0:
        return None
    return "look", outcomes, goals


def program_line(words, _):
    """The step that a line of a program tells, whatever stands ahead."""
    if words[0] == "look":
        cell = numbers_of(words[1:2])
        goals = pairs_of(words[2:])
        return None if cell is None or goals is None or len(goals) == 0 else ("look", cell[0], goals)
    numbers = numbers_of(words[1:])
    if numbers is None or (words[0], len(numbers)) not in (("put", 3), ("tell", 1)):
        return None
    return (words[0],) + numbers


def book_line(words, _):
    """The layout that a line of a book tells, whatever stands ahead."""
    return numbers_of(words)
