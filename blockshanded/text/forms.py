"""The forms of the lines of a program's text, and what these lines tell."""

MAX_BRACKETS = 12
MAX_DIGITS = 40
DIGITS = "0123456789"


def is_word(piece):
    """Whether a piece of a line is a word of letters a to z."""
    return isinstance(piece, str) and piece != "" and all(["a" <= letter <= "z" for letter in piece])


def is_number(piece):
    """Whether a piece of a line is an integer of at most forty digits, without a sign and leading zeros."""
    if not isinstance(piece, str) or not 1 <= len(piece) <= MAX_DIGITS:
        return False
    return all([digit in DIGITS for digit in piece]) and (piece == "0" or piece[0] != "0")


def pieces_of(line):
    """The words of a line, those in brackets in lists of their own; None if brackets or blanks are wrong."""
    open_lists = [[]]
    for chunk in line.split(" "):
        inner = chunk[1:] if chunk.startswith("(") else chunk
        word = inner.rstrip(")")
        if word == "" or "(" in word or ")" in word:
            return None
        if inner != chunk:
            open_lists.append([])
        open_lists[-1].append(word)
        closing = len(inner) - len(word)
        # The first list is that of the line itself, which no bracket closes.
        if closing >= len(open_lists) or len(open_lists) > MAX_BRACKETS + 1:
            return None
        for _ in range(closing):
            closed = open_lists.pop()
            open_lists[-1].append(closed)
    return open_lists[0] if len(open_lists) == 1 else None


def deed_of(pieces):
    """The deed that the pieces tell, or None."""
    if len(pieces) < 3 or not is_word(pieces[1]):
        return None
    if not all([piece == "-" or is_number(piece) for piece in pieces[2:]]):
        return None
    return ("do", pieces[1], tuple([None if piece == "-" else int(piece) for piece in pieces[2:]]))


def all_told(head, pieces, reader):
    """The head with what each of the pieces tells, by this reader, behind it; None if one of them tells nothing."""
    told = [reader(piece) for piece in pieces]
    return None if None in told else head + tuple(told)


def named_of(pieces):
    """The call or the wrap of a procedure that the pieces tell, or None."""
    if len(pieces) < 2 or not is_word(pieces[1]):
        return None
    return all_told((pieces[0], pieces[1]), pieces[2:], part_of)


def parameter_of(pieces):
    """The "run" or the "own" that the pieces tell, or None."""
    return (pieces[0], pieces[1]) if len(pieces) == 2 and is_word(pieces[1]) else None


def wrapped_told_by(pieces):
    """The "wrap" that the pieces tell, or None."""
    if len(pieces) != 3:
        return None
    wrap, term = wrap_told_by(pieces[1]), term_of(pieces[2])
    return None if wrap is None or term is None else ("wrap", wrap, term)


def term_of(pieces):
    """The term that the pieces in a pair of brackets tell, or None."""
    if not isinstance(pieces, list):
        return None
    if pieces[0] == "do":
        return deed_of(pieces)
    if pieces[0] == "run":
        return parameter_of(pieces)
    if pieces[0] in ("seq", "or"):
        return all_told((pieces[0],), pieces[1:], term_of)
    if pieces[0] == "call":
        return named_of(pieces)
    return wrapped_told_by(pieces) if pieces[0] == "wrap" else None


def wrap_told_by(pieces):
    """The wrap that the pieces in a pair of brackets tell, or None."""
    if not isinstance(pieces, list):
        return None
    if pieces[0] == "own":
        return parameter_of(pieces)
    return named_of(pieces) if pieces[0] == "with" else None


def part_of(pieces):
    """The term or the wrap that the pieces in a pair of brackets tell, or None."""
    term = term_of(pieces)
    return wrap_told_by(pieces) if term is None else term


def body_of(pieces):
    """The body that the pieces behind the colon tell, or None."""
    if pieces != [] and pieces[0] in ("do", "run"):
        return term_of(pieces)
    return term_of(pieces[0]) if len(pieces) == 1 else None


def parameters_of(pieces):
    """The parameters that the pieces ahead of the colon tell, or None."""
    names, kinds = pieces[::2], pieces[1::2]
    if len(names) != len(kinds) or not all([is_word(name) for name in names]):
        return None
    if not all([kind in ("block", "wrap") for kind in kinds]):
        return None
    return tuple(zip(names, kinds))


def procedure_in(line):
    """The name, the parameters and the body that the line of a procedure tells; None if it has not its form."""
    pieces = pieces_of(line)
    if pieces is None or len(pieces) < 2 or pieces[0] != "proc" or not is_word(pieces[1]) or ":" not in pieces:
        return None
    colon = pieces.index(":")
    parameters, body = parameters_of(pieces[2:colon]), body_of(pieces[colon + 1:])
    return None if parameters is None or body is None else (pieces[1], parameters, body)


def modes_in(line):
    """The number of modes that the first line tells; None if it has not its form."""
    words = line.split(" ")
    if len(words) != 2 or words[0] != "program" or not is_number(words[1]):
        return None
    return int(words[1])
