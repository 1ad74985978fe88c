"""Programs made ready for being reckoned: numbers in the place of names, and a number for each part of a body.

A part of a plan is a tuple like the term or wrap that it stands for, with its number behind the first word:
("do", number, relation, word, table), ("seq", number, parts), ("or", number, parts), ("run", number, place),
("call", number, procedure, arguments), ("wrap", number, wrap, inner), ("own", number, place),
("with", number, procedure, arguments). A place is the index of a parameter.
"""

from blockshanded.mean.relations import deed_relation, same_of


class Plan:
    """Bodies of procedures over some modes, for a watched word or for none.

    The procedures are triples of a name, parameters and a body. A body may be deeper and longer here than
    that of a procedure of a program.
    """

    def __init__(self, many_modes, procedures, word):
        self.many_modes = many_modes
        self.many_ends = many_modes if word is None else many_modes + 1
        self.many_relations = 1 << (many_modes * self.many_ends)
        self.nothing_at_all = same_of(many_modes, self.many_ends)
        self.watched_word = word
        self.titles = [name for name, _, _ in procedures]
        self.number_of = {name: number for number, name in enumerate(self.titles)}
        self.forms = [tuple([kind for _, kind in parameters]) for _, parameters, _ in procedures]
        self._procedures = procedures
        self._many_parts = 0
        self._roots = [None] * len(procedures)

    def root(self, procedure):
        """The body of the procedure with a number, as a part."""
        root = self._roots[procedure]
        # Procedures that are not asked for are not made ready.
        if root is None:
            _, parameters, body = self._procedures[procedure]
            places = {parameter[0]: place for place, parameter in enumerate(parameters)}
            root = self._ready(body, places)
            self._roots[procedure] = root
        return root

    def _ready(self, part, places):
        number = self._many_parts
        self._many_parts += 1
        tag = part[0]
        if tag == "do":
            relation = deed_relation(part[2], self.many_ends, part[1] == self.watched_word)
            return (tag, number, relation, part[1], part[2])
        if tag in ("run", "own"):
            return (tag, number, places[part[1]])
        if tag in ("call", "with"):
            return (tag, number, self.number_of[part[1]], self._all_ready(part[2:], places))
        if tag == "wrap":
            return (tag, number, self._ready(part[1], places), self._ready(part[2], places))
        return (tag, number, self._all_ready(part[1:], places))

    def _all_ready(self, parts, places):
        return tuple([self._ready(part, places) for part in parts])


def triples_of(program):
    """The names, parameters and bodies of the procedures of a program."""
    return [(procedure.named, procedure.parameters, procedure.body) for procedure in program.procedures]


def plan_of(program, word):
    """The plan of a program, for a watched word or for None."""
    return Plan(program.modes, triples_of(program), word)
