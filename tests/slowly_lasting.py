"""What lasts, done slowly and straight by the words of the document, to compare with."""

from tests.slowly import Slow

MAIN = ("main", ())


class SlowLasting:
    """The lasting sets of a program, as sets of modes; the numbers are those of the document."""

    def __init__(self, program, limit=3000):
        self.program = program
        self.modes = program.modes
        self.all_modes = 2 ** program.modes - 1
        self.slow = Slow(program)
        self.limit = limit
        self.relations = {}

    def relation(self, context):
        """The true relation of a plain context."""
        if context not in self.relations:
            self.relations.update(self.slow.book(root=context, limit=self.limit))
        return self.relations[context]

    def set_of(self, number):
        return {mode for mode in range(self.modes) if number // 2 ** mode % 2}

    def number_of(self, modes):
        return sum(2 ** mode for mode in modes)

    def full_meanings(self):
        """All full meanings of blocks, ascending."""
        return [(relation, lasting) for relation in range(self.slow.size) for lasting in range(self.all_modes + 1)]

    def reckon(self, context, table, rest=0):
        """The lasting set of the body by a dict, and the set of the full contexts that are asked for."""
        name, meanings = context
        handed = dict(zip([parameter[0] for parameter in self.program[name].parameters], meanings))
        asked = set()

        def ask(name, arguments):
            plain = (name, tuple(argument[0] for argument in arguments))
            asked.add((name, tuple(arguments)))
            return self.relation(plain), table.get((name, tuple(arguments)), rest)

        def full(part):
            """The full meaning of a term or wrap."""
            if part[0] in ("run", "own"):
                return handed[part[1]]
            if part[0] == "do":
                pairs = {(m, e) for m, e in enumerate(part[2]) if e is not None}
                return self.slow.number(pairs), 0
            if part[0] == "call":
                return ask(part[1], [full(argument) for argument in part[2:]])
            if part[0] == "with":
                leading = [full(argument) for argument in part[2:]]
                told = {block: ask(part[1], leading + [block]) for block in self.full_meanings()}
                relations = tuple(told[(relation, 0)][0] for relation in range(self.slow.size))
                return relations, tuple(told[block][1] for block in self.full_meanings())
            if part[0] == "wrap":
                inner = full(part[2])
                if part[1][0] == "with":
                    return ask(part[1][1], [full(argument) for argument in part[1][2:]] + [inner])
                wrap = full(part[1])
                return wrap[0][inner[0]], wrap[1][self.full_meanings().index(inner)]
            terms = [full(inner) for inner in part[1:]]
            if part[0] == "or":
                pairs = set().union(*[self.slow.pairs(relation) for relation, _ in terms])
                lasting = set().union(*[self.set_of(modes) for _, modes in terms])
                return self.slow.number(pairs), self.number_of(lasting)
            relation, lasting = self.slow.number((m, m) for m in range(self.modes)), set()
            for behind, modes in terms:
                lasting |= {m for m, e in self.slow.pairs(relation) if e in self.set_of(modes)}
                relation = self.slow.followed(relation, behind)
            return relation, self.number_of(lasting)

        return full(self.program[name].body)[1], asked

    def book(self, root=MAIN, limit=3000):
        """The dict of the true lasting sets from a full context on; None if it is too much."""
        table, asked, changed = {root: self.all_modes}, {}, True
        while changed:
            changed = False
            for context in list(table):
                found, asked[context] = self.reckon(context, table, self.all_modes)
                less = found & table[context]
                changed = changed or less != table[context] or not asked[context] <= set(table)
                table[context] = less
                for other in asked[context]:
                    table.setdefault(other, self.all_modes)
            if len(table) > limit:
                return None
        reached, pending = {root}, [root]
        while pending:
            new = asked[pending.pop()] - reached
            reached |= new
            pending.extend(new)
        return {context: table[context] for context in sorted(reached)}

    def is_supported(self, table):
        return all(table[context] & self.reckon(context, table)[0] == table[context] for context in table)

    def is_ladder(self, dicts):
        ahead = {}
        for table in dicts:
            for context in table:
                reckoned = self.reckon(context, ahead, self.all_modes)[0]
                if reckoned & table[context] != reckoned:
                    return False
            ahead = table
        return True
