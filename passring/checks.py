"""What is refused before anything is done: numbers that are none of those asked for."""

from passring.errors import NoMessage, NoRing, NoStation, NoToken

MOST_STATIONS = 12
MOST_RANK = 7
MOST_MARK = 1000000000


def is_number(worth, least, most):
    """Whether this is a whole number from `least` to `most`."""
    # Python counts True and False among its integers; the ring does not.
    if isinstance(worth, bool) or not isinstance(worth, int):
        return False
    return least <= worth <= most


def check_many(many):
    """Refuse what is no number of stations."""
    if not is_number(many, 1, MOST_STATIONS):
        raise NoRing("a ring has 1 to 12 stations")


def check_station(station, many):
    """Refuse what is no station's number on a ring of so many."""
    if not is_number(station, 0, many - 1):
        raise NoStation("the ring has no such station")


def check_message(rank, mark):
    """Refuse what is no rank, then what is no mark."""
    if not is_number(rank, 0, MOST_RANK):
        raise NoMessage("a rank goes from 0 to 7")
    if not is_number(mark, 0, MOST_MARK):
        raise NoMessage("a mark goes from 0 to 10 to the power of 9")


def check_place(place, many):
    """Refuse what is no place of a token where there are so many."""
    if not is_number(place, 0, many - 1):
        raise NoToken("no token is at that place")
