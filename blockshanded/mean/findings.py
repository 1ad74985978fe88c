"""What has been found of the meanings of contexts and rows, and when."""


class Findings:
    """The meanings of the contexts and the rows of a ledger, as far as they have been found from below."""

    def __init__(self, ledger):
        self.ledger = ledger
        # For each number the relation or the number of the table.
        self.current = [0]
        # The moments in which something grew, each with the meaning from then on, and what was asked for.
        self.history = {}
        self._moment = 0

    def follow_ledger(self):
        """Gives a place to all that has a number in the ledger."""
        self.current.extend([0] * (len(self.ledger.entries) - len(self.current)))

    def note(self, number, meaning, asked):
        """Notes that a meaning has grown to this one, by what had been noted before of the numbers that it asked for.

        They are told in the order in which a body asks for them, with 0 where it did not ask yet.
        """
        self._moment += 1
        self.current[number] = meaning
        self.history.setdefault(number, []).append((self._moment, meaning, asked))

    def meaning_now(self, number):
        """The relation of a context or the number of the table of a row."""
        return self.current[number] if number < len(self.current) else 0

    def meaning_before(self, number, moment):
        """The relation of a context or the number of the table of a row that had been found before a moment."""
        found = 0
        for begin, meaning, _ in self.history.get(number, ()):
            if begin < moment:
                found = meaning
        return found
