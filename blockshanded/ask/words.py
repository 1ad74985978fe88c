"""The deeds that runs can do."""

from blockshanded.ask.papers import found_run, is_book_without, is_pair_headed, is_run_from
from blockshanded.base.checks import check_mode, check_program, check_word
from blockshanded.mean.books import MAIN, book_of_solving, root_relation, solved
from blockshanded.mean.relations import has_pair


def check_start_and_word(program, start, word):
    """Raises an error unless these are a program, one of its modes, and a name."""
    check_program(program)
    check_mode(program, start)
    check_word(word)


def does(solving, start):
    """Whether the relation that was found for main has the pair of a mode and the end of the watched word."""
    modes = solving.ledger.plan.many_modes
    return has_pair(root_relation(solving), start, modes, modes + 1)


def can_do(program, start, word):
    """Whether some run from a mode does a deed with a word."""
    check_start_and_word(program, start, word)
    return does(solved(program, MAIN, word), start)


def words_done(program, start):
    """The words of the program with which some run from a mode does a deed, ascending."""
    check_program(program)
    check_mode(program, start)
    return tuple([word for word in program.words if does(solved(program, MAIN, word), start)])


def word_run(program, start, word):
    """A run from a mode up to a deed with a word, or None."""
    check_start_and_word(program, start, word)
    solving = solved(program, MAIN, word)
    return found_run(program, solving, start, program.modes) if does(solving, start) else None


def word_paper(program, start, word):
    """A run from a mode up to a deed with a word, or a closed book that never allows it."""
    check_start_and_word(program, start, word)
    solving = solved(program, MAIN, word)
    if does(solving, start):
        return ("run", found_run(program, solving, start, program.modes))
    return ("book", book_of_solving(solving))


def is_word_paper(program, start, word, value):
    """Whether the value is a word paper."""
    check_start_and_word(program, start, word)
    if is_pair_headed(value, "run"):
        run = value[1]
        return is_run_from(program, start, run) and run.until == word and run.state == "done"
    return is_pair_headed(value, "book") and is_book_without(program, start, program.modes, value[1], word)
