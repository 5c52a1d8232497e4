"""Points 3, 10 and 11 over long runs, with faults and with messages of any rank put meanwhile."""

import random
import unittest

from helpers import ring_with_on, rows_of, steps
from passring.rings import Ring
from passring.rules import bound, greater


class Run:
    """A ring that is watched: what is promised of it is checked behind all that is done."""

    def __init__(self, test, many):
        self.test = test
        self.many = many
        self.ring = Ring(many)
        self.marks = 0
        self.known_rows = 1
        # For how many steps no token was made and no station went on or off.
        self.calm = 0
        # The first messages, and for those that point 11 speaks of the time when they became first.
        self.firsts = [None] * many
        self.since = {}
        self.sent_in_time = 0

    def put(self, station, rank):
        """Put a message with a mark that no other one has."""
        self.ring.put(station, rank, self.marks)
        self.marks += 1
        self.check_firsts(False)

    def step(self):
        self.ring.step()
        new = self.new_rows()
        made = any(row[0] == "made" for row in new)
        self.calm = 0 if made else self.calm + 1
        self.check_calm()
        self.check_firsts(any(row[0] != "sent" for row in new))

    def steps(self, many):
        for _ in range(many):
            self.step()

    def switch(self, station):
        if self.ring.is_on(station):
            self.ring.switch_off(station)
        else:
            self.ring.switch_on(station)
        self.disturbed()

    def make(self, station):
        if self.ring.is_on(station):
            self.ring.make(station)
            self.disturbed()

    def lose(self, place):
        if place < len(self.ring.tokens()):
            self.ring.lose(place)
            self.new_rows()
            self.check_calm()
            self.check_firsts(True)

    def disturbed(self):
        self.calm = 0
        self.new_rows()
        self.check_calm()
        self.check_firsts(True)

    def new_rows(self):
        rows = self.ring.rows()
        new = rows[self.known_rows:]
        self.known_rows = len(rows)
        return new

    def check_calm(self):
        if self.calm >= self.ring.many_on():
            self.test.assertLessEqual(len(self.ring.tokens()), 1)

    def holds(self):
        """Whether there is one token, and no station that is on knows a greater stamp."""
        tokens = self.ring.tokens()
        if len(tokens) != 1:
            return False
        stamp = tokens[0][:2]
        known = [self.ring.knows(station) for station in range(self.many) if self.ring.is_on(station)]
        return not any(greater(other, stamp) for other in known)

    def check_firsts(self, disturbed):
        if disturbed or not self.holds():
            self.since = {}
        holds = not disturbed and self.holds()
        for station in range(self.many):
            messages = self.ring.messages(station)
            first = messages[0] if messages else None
            if first != self.firsts[station]:
                self.firsts[station] = first
                if self.since.pop(station, None) is not None:
                    self.sent_in_time += 1
                if holds and first is not None and self.ring.is_on(station):
                    self.since[station] = self.ring.time()
            elif station in self.since:
                waited = self.ring.time() - self.since[station]
                self.test.assertLess(waited, bound(self.ring.many_on()))


def any_rank(chance):
    return chance.randint(0, 7)


def edge_rank(chance):
    return chance.choice([0, 7, 7, 7])


class LongRuns(unittest.TestCase):

    def put_some(self, run, chance, rank):
        """Keep rows of messages short, so that the first ones change often."""
        station = chance.randrange(run.many)
        if len(run.ring.messages(station)) < 3:
            run.put(station, rank(chance))

    def faults(self, run, chance, many):
        for _ in range(many):
            what = chance.randrange(10)
            if what == 0:
                run.make(chance.randrange(run.many))
            elif what == 1:
                run.switch(chance.randrange(run.many))
            elif what == 2:
                run.lose(chance.randrange(3))
            else:
                run.step()
            self.put_some(run, chance, any_rank)

    def long_run(self, many, seed, rank):
        chance = random.Random(seed)
        run = Run(self, many)
        for _ in range(4):
            self.faults(run, chance, 60)
            for _ in range(3 * bound(many)):
                if chance.randrange(3) == 0:
                    self.put_some(run, chance, rank)
                run.step()
        return run

    def test_points_10_and_11_behind_faults_of_any_kind(self):
        for many in range(1, 13):
            for seed in range(4):
                for rank in (any_rank, edge_rank):
                    with self.subTest(many=many, seed=seed, rank=rank.__name__):
                        run = self.long_run(many, seed, rank)
                        self.assertGreater(run.sent_in_time, 10)

    def test_point_10_where_faults_come_close_upon_each_other(self):
        for many in range(1, 13):
            chance = random.Random(many)
            run = Run(self, many)
            for _ in range(100):
                for _ in range(chance.randint(1, 4)):
                    run.make(chance.randrange(many))
                if chance.randrange(4) == 0:
                    run.switch(chance.randrange(many))
                run.steps(chance.randint(0, run.ring.many_on() + 1))

    def test_point_10_where_every_station_makes_one(self):
        for many in range(1, 13):
            for order in (range(many), range(many - 1, -1, -1)):
                run = Run(self, many)
                for station in order:
                    run.make(station)
                run.steps(many)
                with self.subTest(many=many, order=order):
                    self.assertEqual(len(run.ring.tokens()), 1)

    def test_point_11_against_messages_of_the_highest_rank_everywhere_else(self):
        for many in range(2, 13):
            for waiting in (0, many // 2, many - 1):
                with self.subTest(many=many, waiting=waiting):
                    self.check_against_the_highest(many, waiting)

    def check_against_the_highest(self, many, waiting):
        run = Run(self, many)
        others = [station for station in range(many) if station != waiting]
        for time in range(6 * bound(many)):
            for station in others:
                if len(run.ring.messages(station)) < 2:
                    run.put(station, 7)
            if time % (bound(many) + 7) == 3 * many:
                run.put(waiting, 0)
            run.step()
        sent = [row for row in rows_of(run.ring, "sent") if row[2] == waiting]
        self.assertGreaterEqual(len(sent), 4)

    def test_point_11_with_few_on_goes_by_those_that_are_on(self):
        for on in ([0], [0, 5], [0, 3, 11]):
            ring = ring_with_on(12, on)
            steps(ring, 5)
            for station in on:
                for mark in range(40):
                    ring.put(station, 7, mark)
            ring.put(1, 7, 99)
            station = on[-1]
            waited = 0
            while len(ring.messages(station)) == 40:
                ring.step()
                waited += 1
            with self.subTest(on=on):
                self.assertLessEqual(waited, bound(len(on)))
                self.assertEqual(ring.messages(1), [(7, 99)])

    def test_point_11_where_a_row_of_messages_waits_at_each_station(self):
        for many in range(1, 13):
            run = Run(self, many)
            for station in range(many):
                for number in range(12):
                    run.put(station, (station + number) % 8)
            run.steps((12 * many + 2) * many)
            with self.subTest(many=many):
                # One message is sent in each round but the first, so all of them are gone by now.
                self.assertEqual([run.ring.messages(station) for station in range(many)], [[]] * many)
                self.assertEqual(run.sent_in_time, 12 * many)


class Stamps(unittest.TestCase):
    """Point 3: no two tokens ever have one stamp, and what a station knows never grows less."""

    def test_behind_faults_of_any_kind(self):
        for seed in range(60):
            chance = random.Random(seed)
            many = chance.randint(1, 6)
            with self.subTest(seed=seed, many=many):
                self.check_run(Run(self, many), chance)

    def check_run(self, run, chance):
        known = [run.ring.knows(station) for station in range(run.many)]
        for _ in range(300):
            what = chance.randrange(5)
            if what == 0:
                run.make(chance.randrange(run.many))
            elif what == 1:
                run.switch(chance.randrange(run.many))
            elif what == 2:
                run.lose(chance.randrange(2))
            else:
                run.steps(chance.randint(1, 30))
            before = known
            known = [run.ring.knows(station) for station in range(run.many)]
            self.assertFalse(any(greater(old, new) for old, new in zip(before, known)))
        stamps = [(row[3], row[2]) for row in rows_of(run.ring, "made")]
        self.assertEqual(len(stamps), len(set(stamps)))


if __name__ == "__main__":
    unittest.main()
