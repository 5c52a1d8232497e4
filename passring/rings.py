"""The ring: its stations, the tokens on it, and the rows of what has happened."""

from passring.checks import check_many, check_message, check_place, check_station
from passring.errors import IsOff, IsOn
from passring.rules import greater, limit, next_on
from passring.stations import Station
from passring.tokens import Token


def sent_by(station, token):
    """The message that the station sends as the token comes to it, or None."""
    if token.winner != token.at or station.need() is None:
        return None
    token.winner = None
    return station.send()


class Ring():
    """A ring of so many stations, all on, with the token that station 0 makes."""

    def __init__(self, many):
        check_many(many)
        self._time = 0
        self._stations = [Station() for _ in range(many)]
        # The greatest token stands first: in this order they go, are told, and are lost.
        self._tokens = []
        self._rows = []
        self._make_token(0)

    def put(self, station, rank, mark):
        """Put a message at a station, be it on or off."""
        holder = self._station(station)
        check_message(rank, mark)
        holder.put(rank, mark)

    def step(self):
        """Let all tokens go on; then stations that heard none for too long make one."""
        self._time += 1
        heard = self._move_tokens()
        self._count_silence(heard)
        self._end_silence()

    def lose(self, place):
        """Lose the token at that place, the greatest being at place 0."""
        check_place(place, len(self._tokens))
        token = self._tokens.pop(place)
        self._note_lost(token)

    def make(self, station):
        """Let a station that is on make a token by mistake."""
        if not self._station(station).on:
            raise IsOff("a station that is off makes no token")
        self._make_token(station)

    def switch_off(self, station):
        """Let a station go off; the tokens at it are lost."""
        holder = self._station(station)
        if not holder.on:
            raise IsOff("the station is off as it is")
        holder.on = False
        left = []
        for token in self._tokens:
            if token.at == station:
                self._note_lost(token)
            else:
                left.append(token)
        self._tokens = left

    def switch_on(self, station):
        """Let a station go on."""
        holder = self._station(station)
        if holder.on:
            raise IsOn("the station is on as it is")
        holder.on = True
        holder.silence = 0

    def time(self):
        """How many steps were done."""
        return self._time

    def many_on(self):
        """How many stations are on."""
        return len([station for station in self._stations if station.on])

    def tokens(self):
        """The tokens as triples (number, maker, station), the greatest first."""
        return [(token.number, token.maker, token.at) for token in self._tokens]

    def rows(self):
        """The rows of all that has happened, in that order."""
        return list(self._rows)

    def many_rows(self):
        """How many rows there are."""
        return len(self._rows)

    def rows_behind(self, known):
        """The rows without the first ones, of which so many are known."""
        return self._rows[known:]

    def messages(self, station):
        """The messages at a station as pairs (rank, mark), in their order."""
        return self._station(station).messages()

    def need(self, station):
        """The need that a station's first message would tell, or None without one."""
        return self._station(station).need()

    def knows(self, station):
        """The greatest stamp that a station has seen."""
        return self._station(station).seen

    def is_on(self, station):
        """Whether a station is on."""
        return self._station(station).on

    def _station(self, number):
        """The station of that number, or the refusal of what is none."""
        check_station(number, len(self._stations))
        return self._stations[number]

    def _make_token(self, at):
        """Let a station make a token, which then is there."""
        station = self._stations[at]
        token = Token(station.seen[0] + 1, at, at)
        station.seen = token.stamp()
        station.silence = 0
        self._add_token(token)
        self._rows.append(("made", self._time, at, token.number))

    def _add_token(self, token):
        """Put a token behind all that are greater."""
        place = 0
        for other in self._tokens:
            if greater(other.stamp(), token.stamp()):
                place += 1
        self._tokens.insert(place, token)

    def _note_lost(self, token):
        self._rows.append(("lost", self._time, token.number, token.maker))

    def _move_tokens(self):
        """Let each token go on; tell for each station whether one came to it."""
        on = [station.on for station in self._stations]
        heard = [False] * len(on)
        left = []
        for token in self._tokens:
            # A token is only at stations that are on, so there always is a next one.
            at = next_on(on, token.at)
            heard[at] = True
            if self._is_dropped(token, at):
                self._rows.append(("dropped", self._time, at, token.number, token.maker))
            else:
                self._receive(token, at)
                left.append(token)
        self._tokens = left
        return heard

    def _is_dropped(self, token, at):
        """Whether the station knows a greater stamp than the token's."""
        return greater(self._stations[at].seen, token.stamp())

    def _receive(self, token, at):
        """Let a token come to a station, which may send and then may tell its need."""
        station = self._stations[at]
        station.seen = token.stamp()
        if at <= token.at:
            token.begin_round()
        token.at = at
        message = sent_by(station, token)
        if message is not None:
            rank, mark = message
            self._rows.append(("sent", self._time, at, rank, mark))
        if station.need() is not None:
            token.hear(station.tell(), at)

    def _count_silence(self, heard):
        """Count a step for each station that is on and to which no token came."""
        for at, station in enumerate(self._stations):
            if heard[at]:
                station.silence = 0
            elif station.on:
                station.silence += 1

    def _end_silence(self):
        """Let each station that is on and has heard no token for too long make one."""
        many = len(self._stations)
        for at, station in enumerate(self._stations):
            if station.on and station.silence > limit(many, at):
                self._make_token(at)
