"""The promises, done slowly and straight by the words of the document, to compare with."""

from blockshanded.runs.runs import Run


class Slow:
    """The relations of a program with or without a watched word, in sets of pairs."""

    def __init__(self, program, word=None):
        self.program = program
        self.word = word
        self.modes = program.modes
        self.ends = program.modes + (word is not None)
        self.size = 2 ** (self.modes * self.ends)

    def pairs(self, relation):
        return {(m, e) for m in range(self.modes) for e in range(self.ends) if relation // 2 ** (m * self.ends + e) % 2}

    def number(self, pairs):
        return sum(2 ** (m * self.ends + e) for m, e in set(pairs))

    def followed(self, one, other):
        first, second = self.pairs(one), self.pairs(other)
        kept = {(m, e) for m, e in first if e == self.modes}
        return self.number(kept | {(m, f) for m, e in first for k, f in second if k == e})

    def reckon(self, context, book):
        """The relation of the body by a book, and the set of the contexts that are needed."""
        name, meanings = context
        handed = dict(zip([parameter[0] for parameter in self.program[name].parameters], meanings))
        needed = set()

        def ask(asked):
            needed.add(asked)
            return book.get(asked, 0)

        def meaning(part):
            if part[0] in ("own", "run"):
                return handed[part[1]]
            if part[0] == "with":
                leading = tuple(meaning(argument) for argument in part[2:])
                return tuple(ask((part[1], leading + (relation,))) for relation in range(self.size))
            if part[0] == "do":
                watched = part[1] == self.word
                return self.number((m, self.modes if watched else e) for m, e in enumerate(part[2]) if e is not None)
            if part[0] == "or":
                return self.number(set.union(*[self.pairs(meaning(term)) for term in part[1:]]))
            if part[0] == "call":
                return ask((part[1], tuple(meaning(argument) for argument in part[2:])))
            if part[0] == "wrap":
                inner = meaning(part[2])
                if part[1][0] == "own":
                    return handed[part[1][1]][inner]
                return ask((part[1][1], tuple(meaning(argument) for argument in part[1][2:]) + (inner,)))
            relation = self.number((m, m) for m in range(self.modes))
            for term in part[1:]:
                relation = self.followed(relation, meaning(term))
            return relation

        return meaning(self.program[name].body), needed

    def explored(self, root=("main", ()), limit=3000):
        """The relations of all that is asked for on the way, and what each asks for; None if it is too much."""
        book, asked, changed = {root: 0}, {}, True
        while changed:
            changed = False
            for context in list(book):
                relation, asked[context] = self.reckon(context, book)
                grown = relation | book[context]
                changed = changed or grown != book[context] or not asked[context] <= set(book)
                book[context] = grown
                for other in asked[context]:
                    book.setdefault(other, 0)
            if len(book) > limit:
                return None
        return book, asked

    def book(self, root=("main", ()), limit=3000):
        """The dict of the true relations that are needed from the root on; None if it is too much."""
        explored = self.explored(root, limit)
        if explored is None:
            return None
        book, asked = explored
        reached, pending = {root}, [root]
        while pending:
            new = asked[pending.pop()] - reached
            reached |= new
            pending.extend(new)
        return {context: book[context] for context in sorted(reached)}

    def is_closed(self, book):
        """Whether a dict from contexts to relations is a closed book."""
        if ("main", ()) not in book:
            return False
        for context in book:
            relation, needed = self.reckon(context, book)
            if not needed <= set(book) or relation | book[context] != book[context]:
                return False
        return True


def runs_from(program, start, until=None, choices=5, many=400):
    """The runs from a mode with at most so many choices, and at most so many of them, those that wait left out."""
    found, layer = [], [Run(program, start, until=until)]
    for _ in range(choices + 1):
        found.extend(run for run in layer if run.state != "waiting")
        waiting = [run for run in layer if run.state == "waiting"]
        layer = [run.chosen(index) for run in waiting for index in range(run.options)][:many]
    return found
