"""What several test files do with rings."""

from passring.rings import Ring


def steps(ring, many):
    """Let the ring do so many steps."""
    for _ in range(many):
        ring.step()


def ring_of(many, *messages):
    """A ring with messages (station, rank, mark) put at time 0."""
    ring = Ring(many)
    for station, rank, mark in messages:
        ring.put(station, rank, mark)
    return ring


def ring_with_on(many, on):
    """A ring on which only these stations are on, at time 0; its token may be lost with station 0."""
    ring = Ring(many)
    for station in range(many):
        if station not in on:
            ring.switch_off(station)
    return ring


def rows_of(ring, kind):
    """The ring's rows of one kind."""
    return [row for row in ring.rows() if row[0] == kind]


def all_told(ring, many):
    """Everything that a ring of so many stations tells."""
    stations = [
        (ring.messages(station), ring.need(station), ring.knows(station), ring.is_on(station))
        for station in range(many)
    ]
    return (ring.time(), ring.many_on(), ring.tokens(), ring.rows(), stations)
