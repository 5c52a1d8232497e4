"""One station: its row of messages, and what it knows of the tokens."""


class Station():
    """A station, on at first, with no message."""

    def __init__(self):
        self.on = True
        self.seen = (0, 0)
        self.silence = 0
        self._row = []
        # Only the first message ever tells its need, so one count is enough for the whole row.
        self._told = 0

    def put(self, rank, mark):
        """Put a message at the end of the row."""
        self._row.append((rank, mark))

    def messages(self):
        """The messages as pairs (rank, mark), in the order in which they were put."""
        return list(self._row)

    def need(self):
        """The need that the first message would tell, or None where there is no message."""
        if not self._row:
            return None
        rank, _ = self._row[0]
        return rank + self._told

    def tell(self):
        """The need that the first message tells, and count that it told it."""
        need = self.need()
        self._told += 1
        return need

    def send(self):
        """Take the first message out of the row."""
        message = self._row.pop(0)
        # The next message has told nothing while it stood behind the first one.
        self._told = 0
        return message
