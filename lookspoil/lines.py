"""Lines of the desk: their forms, and what stands in them."""

from lookspoil.errors import NoLine
from lookspoil.stores import MOST_CELLS
from lookspoil.words import is_number, is_word

# What stands behind the first word, or the first two: a new word, a word under
# which something of a sort is kept, a number, or a text up to the end.
FORMS = {
    "kind": ("word", "text"),
    "book": ("word", "store", "text"),
    "program": ("word", "store", "text"),
    "drop": ("word",),
    "names": (),
    "apart": ("kind", "number", "number"),
    "kept": ("book",),
    "most": ("store",),
    "keeps": ("program", "book"),
    "cuts": ("program", "book"),
    "reader": ("word", "book"),
    "begin": ("program", "book", "number"),
    "do look": ("number",),
    "do put": (),
    "do cut": (),
    "do spoilt": ("number",),
    "do torn": ("number",),
    "do drift": ("number", "number"),
    "where": (),
    "undo": (),
}


def parts_of_line(line):
    """The key of the line's form, and the list of the pairs (sort, word) behind; NoLine for what has no form."""
    if not isinstance(line, str) or "\n" in line:
        raise NoLine()
    words = line.split(" ")
    ahead = 2 if words[0] == "do" else 1
    head = " ".join(words[:ahead])
    sorts = sorts_behind(head, len(words) - ahead)
    if "text" in sorts:
        words = line.split(" ", len(sorts))
    parts = list(zip(sorts, words[ahead:]))
    if len(words) != ahead + len(sorts) or not all([is_part(sort, word) for sort, word in parts]):
        raise NoLine()
    return head, parts


def sorts_behind(head, many):
    """The sorts of what stands behind the head of a line, where many words do."""
    if head == "store":
        return ("word",) + ("kind",) * min(max(many - 1, 1), MOST_CELLS)
    if head not in FORMS:
        raise NoLine()
    return FORMS[head]


def is_part(sort, word):
    """Whether the word is one of this sort, by its signs."""
    if sort == "text":
        return len(word) > 0
    return is_number(word) if sort == "number" else is_word(word)
