"""The shortest runs to an end."""

from blockshanded.mean.readings import Reading
from blockshanded.mean.relations import leading_modes

MAX_PLACES = 40000


class Search:
    """All runs at once, step by step, as far as they still can reach an end.

    What is left to be done is a chain of links, each a closure with the link behind it; the link 0 is nothing
    at all. A closure is a part of a plan with the frame where it stands; a frame is a context with the closures
    of its arguments. All three are numbered, so that runs which have come to the same place are one.
    """

    def __init__(self, solving, end):
        self._solving = solving
        self._ledger = solving.ledger
        self._plan = solving.ledger.plan
        self._early = ((1 << end) >> self._plan.many_modes) << self._plan.many_modes
        self._numbers = {}
        self._frames = []
        self._closures = []
        self._links = [(None, None)]
        # For each link the modes from which what is left can reach the end.
        self._goals = [1 << end]
        self._readings = {}

    def first_link(self):
        """The link with which a run begins."""
        return self._entered(self._solving.roots[0], (), 0)

    def is_hopeful(self, mode, link):
        """Whether what is left can reach the end from a mode."""
        return (self._goals[link] >> mode) & 1 == 1

    def does_watched(self, link):
        """Whether the next step is a deed with the watched word."""
        part = self._closures[self._links[link][0]][0]
        return part[0] == "do" and part[3] == self._plan.watched_word

    def steps_from(self, mode, link):
        """What a step can lead to: triples of the choice or None, the mode, and the link."""
        closure, behind = self._links[link]
        part, frame = self._closures[closure]
        if part[0] == "do":
            return [(None, part[4][mode], behind)]
        if part[0] == "or":
            links = [self._linked(self._closure(inner, frame), behind) for inner in part[2]]
            return [(index, mode, after) for index, after in enumerate(links)]
        return [(None, mode, self._link_after(part, frame, behind))]

    def _link_after(self, part, frame, behind):
        if part[0] == "seq":
            for inner in reversed(list(part[2])):
                behind = self._linked(self._closure(inner, frame), behind)
            return behind
        if part[0] == "run":
            return self._linked(self._frames[frame][1][part[2]], behind)
        if part[0] == "call":
            meanings = self._found(frame, part[3])
            return self._entered(self._ledger.number(part[2], meanings), self._handed(frame, part[3]), behind)
        wrap, around = self._closures[self._handed(frame, (part[2],))[0]]
        meanings = self._found(around, wrap[3]) + self._found(frame, (part[3],))
        closures = self._handed(around, wrap[3]) + (self._closure(part[3], frame),)
        return self._entered(self._ledger.number(wrap[2], meanings), closures, behind)

    def _handed(self, frame, arguments):
        return tuple([self._frames[frame][1][argument[2]] if argument[0] == "own" else self._closure(argument, frame)
                      for argument in arguments])

    def _found(self, frame, parts):
        context = self._frames[frame][0]
        reading = self._readings.get(context)
        if reading is None:
            reading = Reading(self._ledger, context, lambda number: self._solving.findings.meaning_now(number))
            self._readings[context] = reading
        return tuple([reading.found[part[1]] for part in parts])

    def _number(self, key, kept, value):
        """The number of a value among those that are kept, where it has this key."""
        number = self._numbers.get(key)
        if number is None:
            number = len(kept)
            self._numbers[key] = number
            kept.append(value)
        return number

    def _closure(self, part, frame):
        return self._number(("closure", part[1], frame), self._closures, (part, frame))

    def _entered(self, context, closures, behind):
        frame = self._number(("frame", context, closures), self._frames, (context, closures))
        root = self._plan.root(self._ledger.entries[context][0])
        return self._linked(self._closure(root, frame), behind)

    def _linked(self, closure, behind):
        link = self._number(("link", closure, behind), self._links, (closure, behind))
        if link == len(self._goals):
            part, frame = self._closures[closure]
            relation = self._found(frame, (part,))[0]
            modes = leading_modes(relation, self._goals[behind], self._plan.many_modes, self._plan.many_ends)
            self._goals.append(modes | self._early)
        return link


def choices_to(place, came_from):
    """The choices on the way to a place."""
    choices = []
    while place is not None:
        place, choice = came_from[place]
        if choice is not None:
            choices.append(choice)
    return tuple(choices[::-1])


def shortest_choices(solving, mode, end, limit):
    """The choices of a shortest run from a mode to an end.

    None if it takes more steps than the limit, or if it is not among the first places that are looked at.
    """
    search = Search(solving, end)
    layer = [(mode, search.first_link())]
    came_from = {layer[0]: (None, None)}
    for _ in range(limit):
        further = []
        for place in layer:
            if search.does_watched(place[1]):
                return choices_to(place, came_from)
            for choice, after, link in search.steps_from(*place):
                found = (after, link)
                if found not in came_from and search.is_hopeful(after, link):
                    came_from[found] = (place, choice)
                    further.append(found)
        if (end, 0) in came_from:
            return choices_to((end, 0), came_from)
        if len(came_from) > MAX_PLACES:
            return None
        layer = further
    return None
