"""Terms and wraps: the tuples of which the body of a procedure consists."""

from blockshanded.base.integers import is_integer_in
from blockshanded.base.words import is_name

MAX_MODES = 3
KINDS = ("block", "wrap")
TERM_TAGS = ("do", "seq", "or", "run", "call", "wrap")
WRAP_TAGS = ("own", "with")


def kind_of(value):
    """The kind of parameter that this would be for: "block" for a term, "wrap" for a wrap.

    Only the first word is looked at; None if no term and no wrap begins so.
    """
    if not isinstance(value, tuple) or value == ():
        return None
    if value[0] in TERM_TAGS:
        return "block"
    if value[0] in WRAP_TAGS:
        return "wrap"
    return None


def kinds_of(arguments):
    """The kinds of some terms and wraps, in their order."""
    return tuple([kind_of(argument) for argument in arguments])


def parts_in(part):
    """The terms and wraps that stand directly in a term or wrap, in their order."""
    if part[0] in ("seq", "or", "wrap"):
        return part[1:]
    if part[0] in ("call", "with"):
        return part[2:]
    return ()


def with_parts(part, parts):
    """A term or wrap with other terms and wraps in the place of those that stand directly in it."""
    return part[:len(part) - len(parts)] + tuple(parts)


def kinds_in(part):
    """For each of the parts that stand directly in a term or wrap, the kinds that it may have."""
    if part[0] == "wrap":
        return (("wrap",), ("block",))
    if part[0] in ("call", "with"):
        return (KINDS,) * len(parts_in(part))
    return (("block",),) * len(parts_in(part))


def all_parts(part):
    """A term or wrap and all that are in it, in the order in which they begin."""
    found = [part]
    for inner in parts_in(part):
        found.extend(all_parts(inner))
    return found


def is_deed_table(value):
    """Whether the value can be the table of a deed in some program."""
    if not isinstance(value, tuple) or not 1 <= len(value) <= MAX_MODES:
        return False
    return all([entry is None or is_integer_in(entry, 0, MAX_MODES - 1) for entry in value])


def has_form(part, parameters):
    """Whether what begins like a term or wrap is one, if the parts in it are right."""
    tag, many = part[0], len(part)
    if tag == "do":
        return many == 3 and is_name(part[1]) and is_deed_table(part[2])
    if tag == "run":
        return many == 2 and (part[1], "block") in parameters
    if tag == "own":
        return many == 2 and (part[1], "wrap") in parameters
    if tag in ("call", "with"):
        return many > 1 and is_name(part[1])
    if tag == "wrap":
        return many == 3
    if tag == "or":
        return many > 1
    return tag == "seq"
