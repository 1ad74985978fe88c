"""The true meanings of contexts and of all contexts that are needed from them on, found from below."""

from heapq import heappop, heappush

from blockshanded.errors import TooMany
from blockshanded.mean.findings import Findings

# What has happened to a context or a row: nothing yet; it has begun to ask, and is reckoned once this is there;
# it is reckoned; something that it asks for has grown since; it has all pairs, and asks for nothing else any more;
# it is true, and so is all that is needed from it on.
UNOPENED = 0
OPEN = 1
IDLE = 2
QUEUED = 3
FULL = 4
FINAL = 5

OPENED_BETWEEN_LOOKS = 100
OPENED_FOR_EACH_OF_THE_LIMIT = 20
REACHED_FOR_EACH_OF_THE_LIMIT = 4


class Solving:
    """The least meanings that are needed from some contexts on, and how they were found.

    It begins with nothing at all, and reckons bodies again whenever something that they ask for has grown. So no
    meaning is ever greater than the true one; and once nothing that is needed from the roots on has to be reckoned
    any more, these meanings are what is reckoned by them, and so the true ones. All this is about the numbers of a
    ledger, of contexts and rows; a library makes the bodies, and tells the greatest meaning of a context.

    What is asked for is reckoned first, as far as it does not ask for what asks for it. What is asked for by
    meanings that may still grow waits until nothing else is left to be done; so not many contexts are asked for
    that are not needed in the end. If they are very many all the same, the search goes on patiently.
    """

    def __init__(self, ledger, library, limit):
        self.ledger = ledger
        self.findings = Findings(ledger)
        self.roots = []
        self._library = library
        self._limit = limit
        self._bodies = {}
        # For each number, the first of which is that of nothing at all: its body; the numbers at the sites of this;
        # what asks for it; what has happened to it; and whether its meaning is known to be true.
        self._body_at = [None]
        self._asked = [()]
        self._askers = [[]]
        self._states = [FINAL]
        self._is_true = [True]
        # What is reckoned again is taken in the order in which it was reckoned at first.
        self._ranks = [None]
        self._ranked = []
        self._queue = []
        # What is to be opened and, as ~number, what is open; and what waits with its asking.
        self._stack = []
        self._waiting = {}
        self._opened = []
        self._next_look = 0
        self._has_replaced = False
        self._is_hopeless = False
        self._counted = {}

    def solve(self, roots):
        """Finds the true meanings of contexts; an error if more than the limit are needed from these on."""
        self._follow_ledger()
        self.roots = roots
        self._opened = []
        self._next_look = min(OPENED_BETWEEN_LOOKS, self._limit + 1)
        self._stack = [root for root in roots if self._states[root] != FINAL]
        while (self._stack or self._queue or self._waiting) and not self._is_hopeless:
            self._go_on()
        if self._is_hopeless:
            self._go_on_patiently()
        for number in self._opened:
            if self._states[number] in (IDLE, FULL):
                self._note_final(number)
        self._count(roots)

    def numbers_asked(self, number):
        """What a context or a row whose true meaning has been found asks for, in the order of its sites."""
        return self._asked[number]

    def contexts_from(self, roots):
        """The contexts that are needed from some contexts on, these counted."""
        return [number for number in self._reached(roots) if not self._body_at[number].for_row]

    def _follow_ledger(self):
        """Gives a place to what has got a number in the ledger elsewhere."""
        for number in range(len(self._asked), len(self.ledger.entries)):
            self._place(self.ledger.entries[number][0], self.ledger.is_row(number))
        self.findings.follow_ledger()

    def _place(self, procedure, is_row):
        body = self._bodies.get((procedure, is_row))
        if body is None:
            body = self._library.made_body(procedure, is_row, self.findings.current)
            self._bodies[(procedure, is_row)] = body
        self._body_at.append(body)
        self._asked.append(())
        self._askers.append([])
        self._states.append(UNOPENED)
        self._is_true.append(False)
        self._ranks.append(None)

    def _made(self, procedure, key, is_row):
        """A new number for a context or a row."""
        number = self.ledger.added(procedure, key, is_row)
        self._place(procedure, is_row)
        self.findings.current.append(0)
        if self._body_at[number].many_sites == 0:
            # It asks for nothing, so it is true at once.
            self._opened.append(number)
            self._note(number)
            self._note_final(number)
        return number

    def _go_on(self):
        """Opens all that is to be opened; then reckons all again that is to be; then asks for what has waited."""
        stack, queue, states = self._stack, self._queue, self._states
        while stack and not self._is_hopeless:
            number = stack.pop()
            if number < 0:
                self._finish(~number)
            elif states[number] == UNOPENED:
                self._open(number)
        while queue and not stack:
            number = self._ranked[heappop(queue)]
            if states[number] == QUEUED:
                self._reckon(number)
        if not stack and not self._is_hopeless:
            waiting = list(self._waiting)
            self._waiting = {}
            for number in waiting:
                if states[number] in (IDLE, QUEUED) and not self._has_to_wait(number, True):
                    self._note(number)

    def _open(self, number):
        """Asks for what does not depend on what is found."""
        body = self._body_at[number]
        given = self.ledger.entries[number][1]
        asked = [0] * body.many_sites
        stack, states, askers = self._stack, self._states, self._askers
        self._asked[number] = asked
        self._opened.append(number)
        states[number] = OPEN
        stack.append(~number)
        for index, numbers, key_of, procedure, is_row, is_direct in body.static_sites:
            key = key_of(given, asked)
            other = numbers.get(key)
            if other is None:
                other = self._made(procedure, key, is_row)
            asked[index] = other
            # Pairs that would just be added to what has them already do not matter.
            if other != number or not is_direct:
                askers[other].append(number)
                if states[other] == UNOPENED:
                    stack.append(other)
        if len(self._opened) >= self._next_look:
            self._look()

    def _finish(self, number):
        """Reckons what is open, with what it has asked for."""
        if self._ranks[number] is None:
            self._ranks[number] = len(self._ranked)
            self._ranked.append(number)
        self._reckon(number)
        while self._states[number] == QUEUED:
            self._reckon(number)
        if self._states[number] == IDLE and number not in self._waiting:
            is_true = self._is_true
            for other in self._asked[number]:
                if not is_true[other] and other != number:
                    return
            is_true[number] = True

    def _reckon(self, number):
        self._states[number] = IDLE
        if self._body_at[number].is_static or not self._has_to_wait(number, False):
            self._note(number)

    def _note(self, number):
        """Notes the meaning by what is asked for now."""
        body, asked = self._body_at[number], self._asked[number]
        value_of = body.value_of
        before = self.findings.current[number]
        meaning = value_of(self.ledger.entries[number][1], asked)
        if not body.for_row:
            # What was found by lesser meanings stays, also while what is asked for now is not yet reckoned.
            meaning |= before
            if meaning == self._library.full and body.is_static:
                self._states[number] = FULL
                self._is_true[number] = True
        if meaning != before:
            self.findings.note(number, meaning, asked if body.is_static else list(asked))
            states = self._states
            for asker in self._askers[number]:
                if states[asker] == IDLE:
                    states[asker] = QUEUED
                    heappush(self._queue, self._ranks[asker])

    def _has_to_wait(self, number, is_due):
        """Asks for what depends on what is found; whether this is to be opened first.

        What would be asked for newly, by what may still grow, is left out unless it is due.
        """
        body, asked = self._body_at[number], self._asked[number]
        given = self.ledger.entries[number][1]
        fresh, left_out = [], {}
        for index, numbers, key_of, procedure, is_row, _ in body.dynamic_sites:
            key = key_of(given, asked)
            other = numbers.get(key)
            is_new = other is None or self._states[other] == UNOPENED
            if is_new and not is_due and not self._are_true(asked, body.reads[index], left_out):
                self._waiting[number] = True
                left_out[index] = True
                continue
            if other is None:
                other = self._made(procedure, key, is_row)
            if asked[index] != other:
                self._has_replaced = self._has_replaced or asked[index] != 0
                asked[index] = other
                self._askers[other].append(number)
            if is_new:
                fresh.append(other)
                if index in body.feeding:
                    # What depends on it would be asked for by too little.
                    break
        if fresh:
            self._states[number] = OPEN
            self._stack.append(~number)
            self._stack.extend(fresh)
        return fresh != []

    def _are_true(self, asked, sites, left_out):
        """Whether what is asked for at some sites is known to be true."""
        return all([self._is_true[asked[site]] and site not in left_out for site in sites])

    def _look(self):
        """Sees whether it goes on well; an error if surely more contexts than the limit are needed."""
        many = len(self._opened)
        if self._has_replaced:
            self._drop_unneeded()
        if many <= self._limit:
            self._next_look = min(many + many // 2 + OPENED_BETWEEN_LOOKS, self._limit + 1)
        else:
            self._next_look = many + self._limit // 2 + 1
            reached = self._reached(self.roots)
            # At first as if all might still grow, since it takes longer to see what can.
            if self._has_too_many(reached) or self._has_too_many(self._unsettled(reached)):
                raise TooMany(self._limit)
            self._is_hopeless = self._library.is_patient and (
                many > OPENED_FOR_EACH_OF_THE_LIMIT * self._limit
                or len(reached) > REACHED_FOR_EACH_OF_THE_LIMIT * self._limit)

    def _drop_unneeded(self):
        """Forgets what is not needed from the roots on by what has been found so far."""
        reached = self._reached(self.roots)
        for number in self._opened:
            if number not in reached:
                self._forget(number)
        left = [entry for entry in self._stack if (entry if entry >= 0 else ~entry) in reached]
        self._stack.clear()
        self._stack.extend(left)
        self._has_replaced = False

    def _forget(self, number):
        if self._states[number] != FINAL:
            self._states[number] = UNOPENED
            self._asked[number] = ()
            self._is_true[number] = False

    def _reached(self, roots):
        """What is asked for from some numbers on, these counted."""
        found = {root: True for root in roots}
        pending = list(found)
        while pending:
            for other in self._asked[pending.pop()]:
                # Where nothing is asked for yet, there is 0.
                if other not in found and other != 0:
                    found[other] = True
                    pending.append(other)
        return found

    def _unsettled(self, reached):
        """What may still grow of what has been reached, and what asks for it."""
        found = {number: True for number in reached if self._states[number] in (UNOPENED, OPEN, QUEUED)}
        found.update({number: True for number in self._waiting})
        pending = list(found)
        while pending:
            for asker in self._askers[pending.pop()]:
                if asker not in found and self._states[asker] != FULL:
                    found[asker] = True
                    pending.append(asker)
        return found

    def _has_too_many(self, unsettled):
        """Whether more contexts than the limit are surely needed: asked for by what cannot grow any more."""
        found = {root: True for root in self.roots}
        pending = list(found)
        while pending:
            number = pending.pop()
            reads = self._body_at[number].reads
            settled = {}
            for index, other in enumerate(self._asked[number]):
                if self._states[number] == FINAL or (other != 0 and all([site in settled for site in reads[index]])):
                    if other not in unsettled:
                        settled[index] = True
                    if other not in found:
                        found[other] = True
                        pending.append(other)
        return len([number for number in found if not self._body_at[number].for_row]) > self._limit

    def _note_final(self, number):
        self._states[number] = FINAL
        self._is_true[number] = True

    def _go_on_patiently(self):
        """Finds what is needed in another way, with what has been found so far."""
        final = []
        for number, state in enumerate(self._states):
            if state == FINAL:
                final.append(number)
            else:
                self._forget(number)
        self._stack.clear()
        self._queue.clear()
        self._waiting = {}
        self._is_hopeless = False
        asked = self._library.needed_patiently(self.findings, final, self._limit, self.roots)
        self._follow_ledger()
        for number in asked:
            self._asked[number] = asked[number]
            self._note_final(number)

    def _count(self, roots):
        """An error if more contexts than the limit are needed from the roots on."""
        # The numbers of rows are counted here too, so this alone does not tell that there are too many.
        if len(self._asked) <= self._limit or (len(roots) == 1 and roots[0] in self._counted):
            return
        contexts = self.contexts_from(roots)
        if len(contexts) > self._limit:
            raise TooMany(self._limit)
        # From each of these on, no more are needed than from all roots.
        for number in contexts:
            self._counted[number] = True
