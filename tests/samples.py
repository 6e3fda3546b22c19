"""Books and questions that several tests use."""

from trackedreads.books import Book
from trackedreads.errors import BadBook, TooMany

EXAMPLE = """cell a = 0
cell b = 0
effect e
if a == 0
tell b
else
tell peek b
end
end
handler h x
set a = x
end
handler k x
set b = x
end"""

# Every kind of line stands in it at least once.
FULL = """cell a = 3
cell b = 7
kept sum
note a
quiet
if a == b
give peek b
else
let one = a
end
end
give a
end
each twin
give sum
end
effect e
let x = twin
wait
set b = x
tell peek sum
end
effect f
end
handler h
batch
set a = b
end
end
handler move from to
if from != to
set a = to
end
end"""


def wrong_at(lines):
    """The position that BadBook tells of these lines; None if they are a book, bounds aside."""
    try:
        Book(lines)
    except BadBook as why:
        return why.at
    except TooMany:
        return None
    return None


def too_many(lines):
    """What TooMany tells of these lines; None if they are a book."""
    try:
        Book(lines)
    except TooMany as why:
        return why.what
    return None


def lines_of(text):
    """The lines that the text writes with a slash between two."""
    return text.split("/") if text else []


def book_of(text):
    """The book of these lines."""
    return Book(lines_of(text))


def body(kind, *parts):
    """The body of these parts, with a give at its end in an answer."""
    lines = [part for part in parts if part]
    return "/".join(lines + ["give 0"] if kind == "answer" else lines)


def answer_body(text):
    """The lines of a book, and where in it the body of an answer with these lines begins."""
    head = ["cell a = 0", "cell b = 0", "each top", "give a", "end", "kept own"]
    return head + lines_of(text) + ["end", "each low", "give 0", "end", "effect e", "end"], 6


def effect_body(text):
    """The same with the body of an effect."""
    head = ["cell a = 0", "cell b = 0", "each top", "give a", "end", "effect own"]
    return head + lines_of(text) + ["end", "effect e", "end", "handler h", "end"], 6


def handler_body(text):
    """The same with the body of a handler that has the parameters p and q."""
    head = ["cell a = 0", "cell b = 0", "each top", "give a", "end", "effect e", "end"]
    return head + ["handler own p q"] + lines_of(text) + ["end", "handler h", "end"], 8


BODIES = {"answer": answer_body, "effect": effect_body, "handler": handler_body}


def wrong_in(kind, text):
    """The index in the body of the first line that cannot stand; None if all lines can.

    Behind the body the counting goes on: the body's own end has the number of its lines.
    """
    lines, first = BODIES[kind](text)
    at = wrong_at(lines)
    return None if at is None else at - first
