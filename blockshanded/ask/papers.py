"""What ends and deeds have in common: how runs are found, and how papers are judged."""

from blockshanded.ask.shortest import shortest_choices
from blockshanded.ask.tracing import traced_choices
from blockshanded.errors import TooMany
from blockshanded.mean.books import MAIN, is_book, solved_plan
from blockshanded.mean.relations import has_pair
from blockshanded.runs.runs import MAX_STEPS, Run


def found_run(program, solving, start, end):
    """A run from a mode to an end to which the relation that was found for main leads."""
    choices = traced_choices(solving, start, end, MAX_STEPS)
    if choices is None:
        # What is found in breadth is found by fewer steps, as a rule.
        again = solved_plan(solving.ledger.plan, MAIN, True)
        choices = traced_choices(again, start, end, MAX_STEPS)
    if choices is None:
        choices = shortest_choices(solving, start, end, MAX_STEPS)
    if choices is None:
        raise TooMany(MAX_STEPS)
    return Run(program, start, *choices, until=solving.ledger.plan.watched_word)


def is_pair_headed(value, head):
    """Whether the value is a pair with this word ahead."""
    return isinstance(value, tuple) and len(value) == 2 and isinstance(value[0], str) and value[0] == head


def is_run_from(program, start, value):
    """Whether the value is a run of the program from a mode."""
    return isinstance(value, Run) and value.program == program and value.start == start


def is_book_without(program, start, end, value, word):
    """Whether the value is a closed book that does not lead main from a mode to an end."""
    if not is_book(program, value, word=word):
        return False
    ends = program.modes if word is None else program.modes + 1
    return not has_pair(value[MAIN], start, end, ends)
