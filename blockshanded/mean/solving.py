"""The true meanings of contexts and of all contexts that are needed from them on, found from below."""

from heapq import heappop, heappush

from blockshanded.errors import TooMany
from blockshanded.mean.findings import Findings
from blockshanded.mean.nets import FINAL, FULL, IDLE, OPEN, QUEUED, UNOPENED, Net

OPENED_BETWEEN_LOOKS = 100
# All of these are for each one of the limit.
OPENED_IN_DEPTH = 2
OPENED_AT_MOST = 30
REACHED_AT_MOST = 5


class Solving:
    """The least meanings that are needed from some contexts on, and how they were found.

    It begins with nothing at all, and reckons bodies again whenever something that they ask for has grown. So no
    meaning is ever greater than the true one; and once nothing that is needed from the roots on has to be reckoned
    any more, these meanings are what is reckoned by them, and so the true ones. All this is about the numbers of a
    ledger, of contexts and rows; a library makes the bodies, and tells the greatest meaning of a context.

    What is asked for is reckoned first, as far as it does not ask for what asks for it. What is asked for by
    meanings that may still grow waits until nothing else is left to be done; so not many contexts are asked for
    that are not needed in the end. If they are many all the same, it goes on in breadth: what is nearer is reckoned
    first, and what it asks for is dropped if it is not needed any more. If even so there are very many of them, the
    search goes on patiently.
    """

    def __init__(self, ledger, library, limit):
        self.ledger = ledger
        self.findings = Findings(ledger)
        self.roots = []
        self._library = library
        self._limit = limit
        self._bodies = {}
        self._net = Net()
        # What is reckoned again is taken in the order in which it was reckoned at first.
        self._ranks = [None]
        self._ranked = []
        self._queue = []
        # What is to be opened and, as ~number, what is open; in breadth, what is to be opened next.
        self._stack = []
        self._opened = []
        self._next_look = 0
        self._next_count = 0
        self._is_broad = False
        self._is_hopeless = False
        self._has_replaced = False
        self._counted = {}

    def solve(self, roots, in_breadth=False):
        """Finds the true meanings of contexts; an error if more than the limit are needed from these on."""
        self._follow_ledger()
        self.roots = roots
        self._opened = []
        self._next_look = min(OPENED_BETWEEN_LOOKS, self._limit + 1)
        self._next_count = OPENED_IN_DEPTH * self._limit
        self._is_broad = in_breadth
        self._stack = [root for root in roots if self._net.states[root] != FINAL]
        while (self._stack or self._queue or self._net.waiting) and not self._is_hopeless:
            if self._is_broad:
                self._go_on_broadly()
            else:
                self._go_on_deeply()
        if self._is_hopeless:
            self._go_on_patiently()
        for number in self._opened:
            if self._net.states[number] in (IDLE, FULL):
                self._net.note_final(number)
        self._count(roots)

    def numbers_asked(self, number):
        """What a context or a row whose true meaning has been found asks for, in the order of its sites."""
        return self._net.asked[number]

    def contexts_from(self, roots):
        """The contexts that are needed from some contexts on, these counted."""
        return self._net.contexts_among(self._net.reached(roots))

    def _follow_ledger(self):
        """Gives a place to what has got a number in the ledger elsewhere."""
        for number in range(len(self._ranks), len(self.ledger.entries)):
            self._place(self.ledger.entries[number][0], self.ledger.is_row(number))
        self.findings.follow_ledger()

    def _place(self, procedure, is_row):
        body = self._bodies.get((procedure, is_row))
        if body is None:
            body = self._library.made_body(procedure, is_row, self.findings.current)
            self._bodies[(procedure, is_row)] = body
        self._net.place(body)
        self._ranks.append(None)

    def _made(self, procedure, key, is_row):
        """A new number for a context or a row."""
        number = self.ledger.added(procedure, key, is_row)
        self._place(procedure, is_row)
        self.findings.current.append(0)
        if self._net.body_at[number].many_sites == 0:
            # It asks for nothing, so it is true at once.
            self._opened.append(number)
            self._note(number)
            self._net.note_final(number)
        return number

    def _go_on_deeply(self):
        """Opens all that is to be opened, and reckons it; then reckons again; then asks for what has waited."""
        stack, states = self._stack, self._net.states
        while stack and not self._is_broad:
            number = stack.pop()
            if number < 0:
                self._finish(~number)
            elif states[number] == UNOPENED:
                stack.append(~number)
                self._open(number)
        if not self._is_broad:
            self._settle()
        if not stack:
            self._ask_what_waited()

    def _go_on_broadly(self):
        """Opens all that is to be opened now, but not what is asked for by this."""
        layer = list(self._stack)
        self._stack.clear()
        for number in layer[::-1]:
            if number < 0:
                # This had been opened in depth.
                if self._net.states[~number] == OPEN:
                    self._finish(~number)
            elif self._net.states[number] == UNOPENED and (self._net.is_asked(number) or number in self.roots):
                self._open(number)
                self._finish(number)
        self._settle()
        self._ask_what_waited()
        self._settle()
        if len(self._opened) >= self._next_look:
            self._look()

    def _settle(self):
        """Reckons again what asks for something that has grown, as long as nothing is to be opened first."""
        queue, states = self._queue, self._net.states
        while queue and (self._is_broad or not self._stack):
            number = self._ranked[heappop(queue)]
            if states[number] == QUEUED:
                self._reckon(number)

    def _ask_what_waited(self):
        """Has all ask that waited with it."""
        net = self._net
        waiting = list(net.waiting)
        net.waiting = {}
        for number in waiting:
            if net.states[number] in (IDLE, QUEUED) and not self._has_to_wait(number, True):
                self._note(number)

    def _open(self, number):
        """Asks for what does not depend on what is found."""
        net, stack = self._net, self._stack
        body = net.body_at[number]
        given = self.ledger.entries[number][1]
        asked = [0] * body.many_sites
        states, askers = net.states, net.askers
        net.asked[number] = asked
        self._opened.append(number)
        states[number] = OPEN
        for index, numbers, key_of, procedure, is_row, is_direct in body.static_sites:
            key = key_of(given, asked)
            other = numbers.get(key)
            if other is None:
                other = self._made(procedure, key, is_row)
            asked[index] = other
            # Pairs that would just be added to what has them already do not matter.
            if other != number or not is_direct:
                askers[other].append(number)
                if states[other] == UNOPENED:
                    stack.append(other)
        if len(self._opened) >= self._next_look and not self._is_broad:
            self._look()

    def _finish(self, number):
        """Reckons what is open, with what it has asked for."""
        if self._ranks[number] is None:
            self._ranks[number] = len(self._ranked)
            self._ranked.append(number)
        net = self._net
        self._reckon(number)
        while net.states[number] == QUEUED:
            self._reckon(number)
        if net.states[number] == IDLE and number not in net.waiting:
            is_true = net.is_true
            for other in net.asked[number]:
                if not is_true[other] and other != number:
                    return
            is_true[number] = True

    def _reckon(self, number):
        self._net.states[number] = IDLE
        if self._net.body_at[number].is_static or not self._has_to_wait(number, False):
            self._note(number)

    def _note(self, number):
        """Notes the meaning by what is asked for now."""
        net = self._net
        body, asked, states = net.body_at[number], net.asked[number], net.states
        value_of = body.value_of
        before = self.findings.current[number]
        meaning = value_of(self.ledger.entries[number][1], asked)
        if not body.for_row:
            # What was found by lesser meanings stays, also while what is asked for now is not yet reckoned.
            meaning |= before
            if meaning == self._library.full and body.is_static:
                states[number] = FULL
                net.is_true[number] = True
        if meaning != before:
            self.findings.note(number, meaning, asked if body.is_static else list(asked))
            for asker in net.askers[number]:
                if states[asker] == IDLE:
                    states[asker] = QUEUED
                    heappush(self._queue, self._ranks[asker])

    def _has_to_wait(self, number, is_due):
        """Asks for what depends on what is found; whether this is to be opened first.

        What would be asked for newly, by what may still grow, is left out unless it is due.
        """
        net = self._net
        body, asked = net.body_at[number], net.asked[number]
        given = self.ledger.entries[number][1]
        fresh, left_out = [], {}
        for index, numbers, key_of, procedure, is_row, _ in body.dynamic_sites:
            key = key_of(given, asked)
            other = numbers.get(key)
            is_new = other is None or net.states[other] == UNOPENED
            if is_new and not is_due and not self._are_true(asked, body.reads[index], left_out):
                net.waiting[number] = True
                left_out[index] = True
                continue
            if other is None:
                other = self._made(procedure, key, is_row)
            if asked[index] != other:
                self._has_replaced = self._has_replaced or asked[index] != 0
                asked[index] = other
                net.askers[other].append(number)
            if is_new:
                fresh.append(other)
                if index in body.feeding:
                    # What depends on it would be asked for by too little.
                    break
        return fresh != [] and self._are_opened_first(number, fresh)

    def _are_opened_first(self, number, fresh):
        """Has something be opened; whether what asks for it is reckoned behind that."""
        if self._is_broad:
            self._net.waiting[number] = True
        else:
            self._net.states[number] = OPEN
            self._stack.append(~number)
        self._stack.extend(fresh)
        return not self._is_broad

    def _are_true(self, asked, sites, left_out):
        """Whether what is asked for at some sites is known to be true."""
        return all([self._net.is_true[asked[site]] and site not in left_out for site in sites])

    def _look(self):
        """Sees whether it goes on well; an error if surely more contexts than the limit are needed."""
        many = len(self._opened)
        if self._has_replaced:
            self._drop_unneeded()
        if many <= self._limit:
            self._next_look = min(many + many // 2 + OPENED_BETWEEN_LOOKS, self._limit + 1)
            return
        reached = self._net.reached(self.roots)
        self._next_look = many + (min(self._limit, len(reached)) if self._is_broad else self._limit) // 2 + 1
        # At first as if all might still grow, since it takes longer to see what can.
        if self._has_too_many(reached) or self._has_too_many(self._net.unsettled(reached)):
            raise TooMany(self._limit)
        if self._is_broad and self._library.is_patient:
            is_hopeless = many > OPENED_AT_MOST * self._limit or len(reached) > REACHED_AT_MOST * self._limit
            if many >= self._next_count or is_hopeless:
                self._next_count = 2 * many
                self._count_early(reached)
            self._is_hopeless = is_hopeless
        self._is_broad = self._is_broad or many > OPENED_IN_DEPTH * self._limit

    def _drop_unneeded(self):
        """Forgets what is not needed from the roots on by what has been found so far."""
        reached = self._net.reached(self.roots)
        for number in self._opened:
            if number not in reached:
                self._net.forget(number)
        left = [entry for entry in self._stack if (entry if entry >= 0 else ~entry) in reached]
        self._stack.clear()
        self._stack.extend(left)
        self._has_replaced = False

    def _has_too_many(self, unsettled):
        """Whether more contexts than the limit are surely needed."""
        return len(self._net.contexts_among(self._net.surely_needed(self.roots, unsettled))) > self._limit

    def _settled(self, reached):
        """What cannot grow any more of what has been reached, and what was true before."""
        unsettled = self._net.unsettled(reached)
        return [number for number, state in enumerate(self._net.states)
                if state == FINAL or (number in reached and number not in unsettled)]

    def _count_early(self, reached):
        """An error if it can be told by bounds that more contexts than the limit are needed."""
        if self._library.has_surely_more(self.findings, self._settled(reached), self.roots, self._limit):
            raise TooMany(self._limit)
        self._follow_ledger()

    def _go_on_patiently(self):
        """Finds what is needed in another way, with what has been found so far."""
        net = self._net
        reached = net.reached(self.roots)
        settled, unfinished = self._settled(reached), net.unsettled(reached, True)
        for number in range(1, len(net.states)):
            if number in reached and number not in unfinished:
                net.note_final(number)
            else:
                net.forget(number)
        self._stack.clear()
        self._queue.clear()
        net.waiting = {}
        self._is_hopeless = False
        asked = self._library.needed_patiently(self.findings, settled, self._limit, self.roots)
        self._follow_ledger()
        for number in asked:
            net.asked[number] = asked[number]
            net.note_final(number)

    def _count(self, roots):
        """An error if more contexts than the limit are needed from the roots on."""
        # The numbers of rows are counted here too, so this alone does not tell that there are too many.
        if len(self._ranks) <= self._limit or (len(roots) == 1 and roots[0] in self._counted):
            return
        contexts = self.contexts_from(roots)
        if len(contexts) > self._limit:
            raise TooMany(self._limit)
        # From each of these on, no more are needed than from all roots.
        for number in contexts:
            self._counted[number] = True
