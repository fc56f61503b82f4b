"""Texts of kinds, programs and books: lines of words with one blank between."""


def kind_text(kind):
    """The text of the kind: a line for each standing, then one for each mark."""
    looks = [standing_words(outcomes, goals) for outcomes, goals in zip(kind.looks, kind.drifts)]
    puts = [["put", standing] + list(torn) for standing, torn in kind.puts]
    return text_of(looks + puts)


def program_text(program):
    """The text of the program: a line for each place."""
    return text_of([step_words(step) for step in program.steps])


def book_text(book):
    """The text of the book: a line for each name."""
    return text_of(book.layouts)


def text_of(lines):
    """The text with these words and numbers in its lines."""
    return "".join([" ".join([str(word) for word in words]) + "\n" for words in lines])


def standing_words(outcomes, goals):
    """The words for a standing: what a look may answer and lead to, and where the cell may drift, if anywhere."""
    words = ["look"] + pair_words(outcomes)
    return words + ["drift"] + list(goals) if len(goals) > 0 else words


def step_words(step):
    """The words for a step of a program."""
    return ["look", step[1]] + pair_words(step[2]) if step[0] == "look" else step


def pair_words(pairs):
    """A word for each pair of numbers."""
    return [str(one) + ":" + str(two) for one, two in pairs]
