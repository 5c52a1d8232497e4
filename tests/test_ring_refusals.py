"""Point 12: what a ring refuses, and that nothing has changed behind it."""

import unittest

from helpers import all_told, ring_of, steps
from passring import errors
from passring.rings import Ring

NO_NUMBERS = [True, False, None, "", "1", "one", b"1", [], [1], (1,), {}, {1: 1}, object()]
FAR_OFF = [10 ** 30, -10 ** 30, 10 ** 5000, -10 ** 5000]

# Each method that asks for a station, with a station that is refused.
ASKING = {
    "put": lambda ring, station: ring.put(station, 1, 1),
    "make": lambda ring, station: ring.make(station),
    "switch_off": lambda ring, station: ring.switch_off(station),
    "switch_on": lambda ring, station: ring.switch_on(station),
    "messages": lambda ring, station: ring.messages(station),
    "need": lambda ring, station: ring.need(station),
    "knows": lambda ring, station: ring.knows(station),
    "is_on": lambda ring, station: ring.is_on(station),
}


class Refusals(unittest.TestCase):

    def check_refused(self, kind, call, *arguments):
        with self.assertRaises(errors.RingError) as caught:
            call(*arguments)
        self.assertIs(type(caught.exception), kind)


class NoRing(Refusals):

    def test_too_few_and_too_many(self):
        for many in [0, -1, 13, 14] + FAR_OFF:
            with self.subTest(many=many):
                self.check_refused(errors.NoRing, Ring, many)

    def test_what_is_no_number(self):
        for many in NO_NUMBERS:
            with self.subTest(many=many):
                self.check_refused(errors.NoRing, Ring, many)

    def test_the_edges_are_not_refused(self):
        self.assertEqual(Ring(1).many_on(), 1)
        self.assertEqual(Ring(12).many_on(), 12)


class NoStation(Refusals):

    def test_below_and_beyond(self):
        for many in (1, 3, 12):
            for name, ask in ASKING.items():
                for station in [-1, many, many + 1, -many] + FAR_OFF:
                    with self.subTest(many=many, name=name, station=station):
                        self.check_refused(errors.NoStation, ask, Ring(many), station)

    def test_what_is_no_number(self):
        for name, ask in ASKING.items():
            for station in NO_NUMBERS:
                with self.subTest(name=name, station=station):
                    self.check_refused(errors.NoStation, ask, Ring(3), station)

    def test_the_edges_are_not_refused(self):
        for station in (0, 11):
            for name, ask in ASKING.items():
                ring = Ring(12)
                if name == "switch_on":
                    ring.switch_off(station)
                with self.subTest(name=name, station=station):
                    ask(ring, station)

    def test_it_goes_before_what_is_no_rank_and_no_mark(self):
        ring = Ring(3)
        self.check_refused(errors.NoStation, ring.put, 3, 8, 1)
        self.check_refused(errors.NoStation, ring.put, -1, 1, -1)
        self.check_refused(errors.NoStation, ring.put, True, None, None)


class NoMessage(Refusals):

    def test_a_rank_below_and_beyond(self):
        for rank in [-1, 8] + FAR_OFF:
            with self.subTest(rank=rank):
                self.check_refused(errors.NoMessage, Ring(3).put, 0, rank, 1)

    def test_a_mark_below_and_beyond(self):
        for mark in [-1, 10 ** 9 + 1] + FAR_OFF:
            with self.subTest(mark=mark):
                self.check_refused(errors.NoMessage, Ring(3).put, 0, 1, mark)

    def test_what_is_no_number(self):
        for worth in NO_NUMBERS:
            with self.subTest(worth=worth):
                self.check_refused(errors.NoMessage, Ring(3).put, 0, worth, 1)
                self.check_refused(errors.NoMessage, Ring(3).put, 0, 1, worth)
                self.check_refused(errors.NoMessage, Ring(3).put, 0, worth, worth)

    def test_the_edges_are_not_refused(self):
        ring = ring_of(3, (0, 0, 0), (0, 7, 0), (0, 0, 10 ** 9), (0, 7, 10 ** 9))
        self.assertEqual(ring.messages(0), [(0, 0), (7, 0), (0, 10 ** 9), (7, 10 ** 9)])

    def test_at_a_station_that_is_off_too(self):
        ring = Ring(3)
        ring.switch_off(1)
        self.check_refused(errors.NoMessage, ring.put, 1, 8, 1)
        self.check_refused(errors.NoMessage, ring.put, 1, 1, -1)


class IsOffIsOn(Refusals):

    def test_a_station_that_is_off_makes_no_token_and_does_not_go_off(self):
        for station in range(3):
            ring = Ring(3)
            ring.switch_off(station)
            with self.subTest(station=station):
                self.check_refused(errors.IsOff, ring.make, station)
                self.check_refused(errors.IsOff, ring.switch_off, station)

    def test_a_station_that_is_on_does_not_go_on(self):
        for station in range(3):
            ring = Ring(3)
            with self.subTest(station=station):
                self.check_refused(errors.IsOn, ring.switch_on, station)
                ring.switch_off(station)
                ring.switch_on(station)
                self.check_refused(errors.IsOn, ring.switch_on, station)

    def test_what_is_no_station_goes_before_them(self):
        ring = Ring(2)
        self.check_refused(errors.NoStation, ring.switch_on, 2)
        self.check_refused(errors.NoStation, ring.switch_on, True)
        ring.switch_off(0)
        ring.switch_off(1)
        for refused in (ring.make, ring.switch_off):
            self.check_refused(errors.NoStation, refused, 2)
            self.check_refused(errors.NoStation, refused, False)
            self.check_refused(errors.NoStation, refused, -1)


class NoToken(Refusals):

    def test_below_and_beyond(self):
        ring = Ring(3)
        ring.make(1)
        ring.make(2)
        for place in [-1, -3, 3, 4] + FAR_OFF:
            with self.subTest(place=place):
                self.check_refused(errors.NoToken, ring.lose, place)

    def test_the_number_of_tokens_tells_not_that_of_stations(self):
        self.check_refused(errors.NoToken, Ring(3).lose, 1)
        ring = Ring(1)
        ring.make(0)
        ring.lose(1)
        self.assertEqual(ring.tokens(), [(2, 0, 0)])

    def test_where_there_is_none(self):
        ring = Ring(3)
        ring.lose(0)
        for place in (0, -1, 1):
            with self.subTest(place=place):
                self.check_refused(errors.NoToken, ring.lose, place)

    def test_what_is_no_number(self):
        ring = Ring(3)
        ring.make(1)
        for place in NO_NUMBERS:
            with self.subTest(place=place):
                self.check_refused(errors.NoToken, ring.lose, place)


class NothingChanges(Refusals):

    def refuse_all(self, ring):
        """Hand in one wrong thing for each refusal of each method; station 3 is off, the others on."""
        for worth in (-1, 4, True, False, None, "1", [1]):
            for ask in ASKING.values():
                self.check_refused(errors.NoStation, ask, ring, worth)
        for worth in (-1, 10 ** 9 + 1, True, None, "1", [1]):
            for station in (1, 3):
                self.check_refused(errors.NoMessage, ring.put, station, worth, 1)
                self.check_refused(errors.NoMessage, ring.put, station, 1, worth)
        self.check_refused(errors.IsOff, ring.make, 3)
        self.check_refused(errors.IsOff, ring.switch_off, 3)
        for station in range(3):
            self.check_refused(errors.IsOn, ring.switch_on, station)
        for place in (-1, len(ring.tokens()), True, False, None, "0", [0]):
            self.check_refused(errors.NoToken, ring.lose, place)

    def ring_underway(self):
        ring = ring_of(4, (0, 2, 1), (1, 3, 50), (2, 6, 60), (3, 1, 70), (1, 7, 80))
        steps(ring, 6)
        ring.switch_off(3)
        return ring

    def test_nothing_that_is_told(self):
        ring = self.ring_underway()
        told = all_told(ring, 4)
        self.refuse_all(ring)
        self.assertEqual(all_told(ring, 4), told)

    def test_nothing_that_comes_later(self):
        # Tokens are lost meanwhile, so that refusals come between silent steps, too.
        for losses in ([], [0], [4, 30]):
            ring = self.ring_underway()
            other = self.ring_underway()
            for time in range(60):
                if time in losses:
                    ring.lose(0)
                    other.lose(0)
                self.refuse_all(ring)
                ring.step()
                other.step()
                self.assertEqual(all_told(ring, 4), all_told(other, 4))

    def test_a_ring_refused_leaves_another_one_as_it_is(self):
        ring = self.ring_underway()
        told = all_told(ring, 4)
        self.check_refused(errors.NoRing, Ring, 13)
        self.assertEqual(all_told(ring, 4), told)


if __name__ == "__main__":
    unittest.main()
