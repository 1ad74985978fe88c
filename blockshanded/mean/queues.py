"""Which contexts are reckoned next, if there may be far more than can be."""


class Queues:
    """Numbers that wait, in a queue for each procedure; the queue that has taken the least effort so far is next.

    So what leads on and on in some procedures does not keep the others waiting. The numbers are taken by turns
    from the beginning and from the end of a queue.
    """

    def __init__(self):
        self._waiting = {}
        self._efforts = {}
        self._turns = {}

    def refill(self, pairs):
        """Has just these numbers wait, each paired with its procedure."""
        self._waiting = {}
        for procedure, number in pairs:
            self.line_up(procedure, number)

    def line_up(self, procedure, number):
        """Has one more number wait, at the end of its queue."""
        if procedure not in self._waiting:
            self._waiting[procedure] = []
            # A queue that was empty does not catch up with the others.
            efforts = [self._efforts[other] for other in self._waiting if other in self._efforts and other != procedure]
            self._efforts[procedure] = max(self._efforts.get(procedure, 0), min(efforts, default=0))
        self._waiting[procedure].append(number)

    def taken(self):
        """The procedure and the number that are next; None if no number waits."""
        if not self._waiting:
            return None
        least = min([(self._efforts[procedure], procedure) for procedure in self._waiting])
        procedure = least[1]
        numbers = self._waiting[procedure]
        self._turns[procedure] = not self._turns.get(procedure, False)
        number = numbers.pop(0) if self._turns[procedure] else numbers.pop()
        if not numbers:
            del self._waiting[procedure]
        return procedure, number

    def note_effort(self, procedure, effort):
        """Notes how much was done for a number of a procedure."""
        self._efforts[procedure] += effort
