"""What a line says by itself, whatever the lines around it are."""

KEPT_WORDS = (
    "cell", "kept", "each", "effect", "handler", "let", "set", "tell", "note",
    "give", "if", "else", "end", "quiet", "batch", "wait", "peek",
)
MOST_LETTERS = 8
MOST_DIGITS = 30
MOST_PARAMETERS = 2


def is_word(text):
    """Whether text can be a name."""
    if not 1 <= len(text) <= MOST_LETTERS or text in KEPT_WORDS:
        return False
    return text.isascii() and text.isalpha() and text.islower()


def is_number(text):
    """Whether text is written as a number."""
    if not 1 <= len(text) <= MOST_DIGITS or not text.isascii() or not text.isdigit():
        return False
    return text == "0" or text[0] != "0"


def numbers_in(line):
    """The numbers that are written in a line of a book."""
    return [int(part) for part in line.split(" ") if is_number(part)]


def said_by(line):
    """The line as a tuple that begins with its first word; None if no line reads so.

    An expression in it is ("number", n), ("word", w) or ("peek", w).
    """
    if not isinstance(line, str):
        return None
    # A blank too many leaves an empty part, which is neither a word nor a number.
    parts = line.split(" ")
    if parts[0] in ("cell", "kept", "each", "effect", "handler"):
        return _declaration(parts)
    return _body_line(parts)


def _declaration(parts):
    match parts:
        case ["cell", name, "=", number]:
            if is_word(name) and is_number(number):
                return ("cell", name, int(number))
        case ["kept" | "each" | "effect", name]:
            if is_word(name):
                return (parts[0], name)
        case ["handler", name, *parameters]:
            if is_word(name) and _are_parameters(parameters):
                return ("handler", name, tuple(parameters))
    return None


def _are_parameters(words):
    if len(words) > MOST_PARAMETERS or len(set(words)) < len(words):
        return False
    return all([is_word(word) for word in words])


def _body_line(parts):
    match parts:
        case ["let" | "set", name, "=", *behind]:
            given = _expression(behind)
            if is_word(name) and given is not None:
                return (parts[0], name, given)
        case ["note", name]:
            if is_word(name):
                return ("note", name)
        case ["give" | "tell", *behind]:
            given = _expression(behind)
            if given is not None:
                return (parts[0], given)
        case ["if", *behind]:
            return _comparison(behind)
        case ["wait" | "quiet" | "batch" | "else" | "end"]:
            return (parts[0],)
    return None


def _comparison(parts):
    for at, sign in enumerate(parts):
        if sign in ("==", "!="):
            left = _expression(parts[:at])
            right = _expression(parts[at + 1:])
            if left is None or right is None:
                return None
            return ("if", sign, left, right)
    return None


def _expression(parts):
    match parts:
        case [text]:
            if is_number(text):
                return ("number", int(text))
            if is_word(text):
                return ("word", text)
        case ["peek", name]:
            if is_word(name):
                return ("peek", name)
    return None
