"""One token: its stamp, where it is, and what it was told in its round."""


class Token():
    """A token that the station `maker` made; it has been told nothing yet."""

    def __init__(self, number, maker, at):
        self.number = number
        self.maker = maker
        self.at = at
        self.winner = None
        self.best = None

    def stamp(self):
        """The stamp, a pair (number, maker)."""
        return (self.number, self.maker)

    def hear(self, need, station):
        """Be told a need, and keep it where it is the best one of this round."""
        # Of needs that are like the one told first is kept, so a later one has to be greater.
        if self.best is None or need > self.best[0]:
            self.best = (need, station)

    def begin_round(self):
        """Let the best need of the round that ends win, and forget that need."""
        self.winner = None
        if self.best is not None:
            self.winner = self.best[1]
        self.best = None
