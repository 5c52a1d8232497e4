"""The rules of the ring that ask nothing but numbers."""


def greater(one, other):
    """Whether the stamp `one` is greater than the stamp `other`."""
    if one[0] != other[0]:
        return one[0] > other[0]
    return one[1] > other[1]


def next_on(on, at):
    """The number of the next station behind `at` that is on, or None."""
    many = len(on)
    # Going as far as `many` ends the way round at `at` itself: it is asked, too, but last.
    for ahead in range(1, many + 1):
        station = (at + ahead) % many
        if on[station]:
            return station
    return None


def limit(many, station):
    """For how many steps the station may hear no token before it makes one."""
    return many + 1 + 2 * many * station


def bound(many):
    """Within how many steps a first message is sent, with so many stations on."""
    rounds = many + 10
    return rounds * many
