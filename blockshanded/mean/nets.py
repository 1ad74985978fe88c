"""What asks for what, among contexts and rows, and what has happened to each of them."""

# Nothing has happened yet; it has begun to ask, and is reckoned once this is there; it is reckoned; something that
# it asks for has grown since; it has all pairs, and asks for nothing else any more; it is true, and so is all that
# is needed from it on.
UNOPENED = 0
OPEN = 1
IDLE = 2
QUEUED = 3
FULL = 4
FINAL = 5


class Net:
    """For each number, the first of which is that of nothing at all: its body; the numbers at the sites of this;
    what asks for it; what has happened to it; and whether its meaning is known to be true.

    Those in `waiting` have not asked for all, since what they would ask for depends on what may still grow.
    """

    def __init__(self):
        self.body_at = [None]
        self.asked = [()]
        self.askers = [[]]
        self.states = [FINAL]
        self.is_true = [True]
        self.waiting = {}

    def place(self, body):
        """Has a place for the next number, with its body."""
        self.body_at.append(body)
        self.asked.append(())
        self.askers.append([])
        self.states.append(UNOPENED)
        self.is_true.append(False)

    def note_final(self, number):
        """Notes that a number is true, with all that is needed from it on."""
        self.states[number] = FINAL
        self.is_true[number] = True

    def forget(self, number):
        """Forgets what has happened to a number, unless it is final."""
        if self.states[number] != FINAL:
            self.states[number] = UNOPENED
            self.asked[number] = ()
            self.is_true[number] = False

    def is_asked(self, number):
        """Whether something asks for a number."""
        for asker in self.askers[number]:
            if number in self.asked[asker]:
                return True
        return False

    def reached(self, roots):
        """What is asked for from some numbers on, again and again, these counted."""
        asked = self.asked
        found = {root: True for root in roots}
        pending = list(found)
        while pending:
            for other in asked[pending.pop()]:
                # Where nothing is asked for yet, there is 0.
                if other not in found and other != 0:
                    found[other] = True
                    pending.append(other)
        return found

    def contexts_among(self, numbers):
        """The numbers of contexts among some numbers."""
        return [number for number in numbers if not self.body_at[number].for_row]

    def unsettled(self, numbers, by_all=False):
        """What may still grow of some numbers, and what asks for it, also if this has all pairs, if by all."""
        found = {number: True for number in numbers if self.states[number] in (UNOPENED, OPEN, QUEUED)}
        found.update({number: True for number in self.waiting})
        pending = list(found)
        while pending:
            for asker in self.askers[pending.pop()]:
                if asker not in found and (by_all or self.states[asker] != FULL):
                    found[asker] = True
                    pending.append(asker)
        return found

    def surely_needed(self, roots, unsettled):
        """What is asked for from some numbers on by what cannot grow any more."""
        found = {root: True for root in roots}
        pending = list(found)
        while pending:
            for other in self._surely_asked(pending.pop(), unsettled):
                if other not in found:
                    found[other] = True
                    pending.append(other)
        return found

    def _surely_asked(self, number, unsettled):
        if self.states[number] == FINAL:
            return self.asked[number]
        # If something has grown since it asked, just what does not depend on it is asked for still.
        is_up_to_date = self.states[number] == IDLE and number not in self.waiting
        reads = self.body_at[number].reads
        settled, found = {}, []
        for index, other in enumerate(self.asked[number]):
            if reads[index] == () or (is_up_to_date and all([site in settled for site in reads[index]])):
                found.append(other)
                if other not in unsettled:
                    settled[index] = True
        return found
