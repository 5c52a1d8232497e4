"""The refusals of the ring, one class for each kind."""


class RingError(ValueError):
    """Any refusal."""


class NoRing(RingError):
    """What was told is no number of stations."""


class NoStation(RingError):
    """What was told is no station's number."""


class NoMessage(RingError):
    """What was told is no rank or no mark."""


class IsOff(RingError):
    """The station is off, and it would have to be on."""


class IsOn(RingError):
    """The station is on, and it would have to be off."""


class NoToken(RingError):
    """What was told is no place of a token that is there."""
