"""Points 4, 7, 8 and 9: tokens made and lost, stations off and on, and the rows of it."""

import unittest

from helpers import ring_of, ring_with_on, rows_of, steps
from passring.rings import Ring


class Making(unittest.TestCase):
    """Points 4 and 8."""

    def test_the_token_is_at_the_station_with_it_as_its_maker(self):
        ring = Ring(3)
        ring.make(1)
        self.assertEqual(ring.tokens(), [(1, 1, 1), (1, 0, 0)])
        self.assertEqual(ring.rows()[1:], [("made", 0, 1, 1)])

    def test_its_number_is_one_above_that_of_the_stamp_that_the_station_knows(self):
        ring = Ring(3)
        steps(ring, 1)
        ring.make(1)
        ring.make(2)
        self.assertEqual(ring.rows()[1:], [("made", 1, 1, 2), ("made", 1, 2, 1)])
        self.assertEqual(ring.tokens(), [(2, 1, 1), (1, 2, 2), (1, 0, 1)])

    def test_the_station_knows_this_stamp_from_then_on(self):
        ring = Ring(3)
        ring.make(1)
        self.assertEqual([ring.knows(station) for station in range(3)], [(1, 0), (1, 1), (0, 0)])
        steps(ring, 3)
        ring.make(0)
        self.assertEqual([ring.knows(station) for station in range(3)], [(2, 0), (1, 1), (1, 1)])

    def test_several_may_be_made_at_one_station_at_once(self):
        ring = Ring(2)
        for _ in range(3):
            ring.make(1)
        self.assertEqual(ring.tokens(), [(3, 1, 1), (2, 1, 1), (1, 1, 1), (1, 0, 0)])
        self.assertEqual(ring.knows(1), (3, 1))

    def test_the_station_has_heard_a_token_just_then(self):
        ring = Ring(3)
        ring.lose(0)
        steps(ring, 4)
        ring.make(0)
        ring.lose(0)
        steps(ring, 4)
        self.assertEqual(rows_of(ring, "made")[1:], [("made", 4, 0, 2)])
        steps(ring, 1)
        self.assertEqual(rows_of(ring, "made")[2:], [("made", 9, 0, 3)])

    def test_a_token_made_where_a_message_stands_is_told_nothing_then(self):
        ring = ring_of(3, (1, 3, 50))
        ring.make(1)
        self.assertEqual(ring.need(1), 3)
        steps(ring, 2)
        # Station 1 has told it nothing as it began its round at 0, so it has won nothing.
        steps(ring, 3)
        self.assertEqual(rows_of(ring, "sent"), [])
        steps(ring, 1)
        self.assertEqual(rows_of(ring, "sent"), [("sent", 6, 1, 3, 50)])


class Losing(unittest.TestCase):
    """Point 8."""

    def test_the_one_token(self):
        ring = Ring(3)
        steps(ring, 2)
        ring.lose(0)
        self.assertEqual(ring.tokens(), [])
        self.assertEqual(ring.rows()[1:], [("lost", 2, 1, 0)])

    def test_the_place_counts_from_the_greatest(self):
        for place, lost in enumerate([(2, 0), (1, 2), (1, 1), (1, 0)]):
            ring = Ring(3)
            ring.make(1)
            ring.make(2)
            ring.make(0)
            left = [stamp for stamp in [(2, 0), (1, 2), (1, 1), (1, 0)] if stamp != lost]
            with self.subTest(place=place):
                ring.lose(place)
                self.assertEqual([token[:2] for token in ring.tokens()], left)
                self.assertEqual(ring.rows()[-1], ("lost", 0) + lost)

    def test_the_stamps_that_are_known_stay(self):
        ring = Ring(3)
        steps(ring, 1)
        ring.lose(0)
        self.assertEqual([ring.knows(station) for station in range(3)], [(1, 0), (1, 0), (0, 0)])

    def test_a_number_is_not_used_again_for_a_token_that_is_lost(self):
        ring = Ring(1)
        ring.lose(0)
        ring.make(0)
        self.assertEqual(ring.tokens(), [(2, 0, 0)])


class Limits(unittest.TestCase):
    """Point 7."""

    def test_station_0_makes_one_behind_more_steps_than_its_limit(self):
        ring = Ring(3)
        ring.lose(0)
        steps(ring, 4)
        self.assertEqual(ring.tokens(), [])
        steps(ring, 1)
        self.assertEqual(ring.tokens(), [(2, 0, 0)])
        self.assertEqual(ring.rows()[2:], [("made", 5, 0, 2)])

    def test_each_station_of_each_ring_where_it_is_alone_on(self):
        for many in range(1, 13):
            for station in range(many):
                with self.subTest(many=many, station=station):
                    self.check_alone_on(many, station)

    def check_alone_on(self, many, station):
        ring = ring_with_on(many, [station])
        if station == 0:
            ring.lose(0)
        rows = ring.rows()
        told = many + 1 + 2 * many * station
        steps(ring, told)
        self.assertEqual(ring.rows(), rows)
        steps(ring, 1)
        number = 2 if station == 0 else 1
        self.assertEqual(ring.rows(), rows + [("made", told + 1, station, number)])
        self.assertEqual(ring.tokens(), [(number, station, station)])

    def test_the_limit_goes_by_the_number_of_stations_not_of_those_on(self):
        ring = ring_with_on(6, [0, 1])
        ring.lose(0)
        steps(ring, 7)
        self.assertEqual(ring.tokens(), [])
        steps(ring, 1)
        self.assertEqual(ring.tokens(), [(2, 0, 0)])

    def test_it_counts_anew_from_the_token_that_it_made(self):
        ring = Ring(3)
        for made, number in ((5, 2), (10, 3)):
            ring.lose(0)
            steps(ring, 4)
            self.assertEqual(ring.tokens(), [])
            steps(ring, 1)
            self.assertEqual(ring.rows()[-1], ("made", made, 0, number))

    def test_it_counts_anew_from_the_token_that_came(self):
        ring = Ring(3)
        steps(ring, 3)
        ring.lose(0)
        steps(ring, 4)
        self.assertEqual(ring.tokens(), [])
        steps(ring, 1)
        self.assertEqual(ring.rows()[-1], ("made", 8, 0, 2))

    def test_a_token_that_is_dropped_has_been_heard(self):
        ring = Ring(3)
        ring.make(0)
        ring.lose(0)
        steps(ring, 3)
        self.assertEqual(ring.rows()[-1], ("dropped", 3, 0, 1, 0))
        steps(ring, 4)
        self.assertEqual(ring.tokens(), [])
        steps(ring, 1)
        self.assertEqual(ring.rows()[-1], ("made", 8, 0, 3))

    def test_a_token_that_is_at_a_station_and_goes_on_is_heard_no_more(self):
        ring = Ring(3)
        ring.make(0)
        steps(ring, 1)
        ring.lose(0)
        # Station 0 has heard its own at time 0, station 1 that of station 0 at time 1.
        steps(ring, 3)
        self.assertEqual(ring.tokens(), [])
        steps(ring, 1)
        self.assertEqual(ring.rows()[-1], ("made", 5, 0, 3))

    def test_no_station_makes_one_while_a_token_goes_round(self):
        for many in range(1, 13):
            ring = Ring(many)
            steps(ring, 400)
            with self.subTest(many=many):
                self.assertEqual(ring.rows(), [("made", 0, 0, 1)])

    def test_two_pass_their_limits_in_one_step(self):
        ring = Ring(2)
        ring.lose(0)
        ring.switch_off(0)
        steps(ring, 4)
        ring.switch_on(0)
        steps(ring, 3)
        self.assertEqual(ring.tokens(), [])
        steps(ring, 1)
        self.assertEqual(ring.rows()[2:], [("made", 8, 0, 2), ("made", 8, 1, 1)])
        self.assertEqual(ring.tokens(), [(2, 0, 0), (1, 1, 1)])
        steps(ring, 1)
        self.assertEqual(ring.tokens(), [(2, 0, 1)])
        self.assertEqual(ring.rows()[4:], [("dropped", 9, 0, 1, 1)])

    def test_what_is_made_comes_behind_all_that_goes(self):
        ring = Ring(3)
        ring.lose(0)
        steps(ring, 4)
        ring.make(1)
        ring.make(1)
        rows = ring.rows()
        steps(ring, 1)
        self.assertEqual(ring.rows(), rows + [("dropped", 5, 2, 1, 1), ("made", 5, 0, 2)])
        self.assertEqual(ring.tokens(), [(2, 1, 2), (2, 0, 0)])

    def test_a_token_made_in_a_step_goes_on_in_the_next_one(self):
        ring = Ring(3)
        ring.lose(0)
        steps(ring, 6)
        self.assertEqual(ring.tokens(), [(2, 0, 1)])

    def test_all_tokens_lost_and_made_anew(self):
        ring = ring_of(3, (1, 4, 10))
        ring.make(1)
        ring.make(2)
        for _ in range(3):
            ring.lose(0)
        self.assertEqual(ring.tokens(), [])
        steps(ring, 5)
        self.assertEqual(ring.tokens(), [(2, 0, 0)])
        steps(ring, 4)
        self.assertEqual(ring.rows()[-1], ("sent", 9, 1, 4, 10))


class Off(unittest.TestCase):
    """Point 8."""

    def test_it_is_off_and_the_others_stay_on(self):
        ring = Ring(3)
        ring.switch_off(1)
        self.assertEqual([ring.is_on(station) for station in range(3)], [True, False, True])
        self.assertIs(ring.is_on(1), False)
        self.assertEqual(ring.many_on(), 2)

    def test_no_row_is_kept_of_going_off_and_on_alone(self):
        ring = Ring(3)
        ring.switch_off(1)
        ring.switch_on(1)
        self.assertEqual(ring.rows(), [("made", 0, 0, 1)])

    def test_a_token_at_it_is_lost(self):
        ring = Ring(3)
        steps(ring, 1)
        ring.switch_off(1)
        self.assertEqual(ring.tokens(), [])
        self.assertEqual(ring.rows()[1:], [("lost", 1, 1, 0)])

    def test_tokens_elsewhere_are_not(self):
        ring = Ring(3)
        ring.make(2)
        ring.switch_off(0)
        self.assertEqual(ring.tokens(), [(1, 2, 2)])
        self.assertEqual(ring.rows()[2:], [("lost", 0, 1, 0)])

    def test_several_tokens_at_it_are_lost_the_greatest_first(self):
        ring = Ring(3)
        steps(ring, 2)
        ring.make(2)
        ring.make(1)
        ring.make(2)
        self.assertEqual(ring.tokens(), [(3, 2, 2), (2, 2, 2), (2, 1, 1), (1, 0, 2)])
        rows = ring.rows()
        ring.switch_off(2)
        self.assertEqual(ring.tokens(), [(2, 1, 1)])
        self.assertEqual(ring.rows(), rows + [("lost", 2, 3, 2), ("lost", 2, 2, 2), ("lost", 2, 1, 0)])

    def test_it_keeps_its_messages_its_counting_and_the_stamp_that_it_knows(self):
        ring = ring_of(3, (1, 3, 50), (1, 6, 60))
        steps(ring, 1)
        for switch in (ring.switch_off, ring.switch_on):
            switch(1)
            self.assertEqual(ring.messages(1), [(3, 50), (6, 60)])
            self.assertEqual(ring.need(1), 4)
            self.assertEqual(ring.knows(1), (1, 0))

    def test_on_again_it_goes_on_with_them(self):
        ring = ring_of(3, (1, 3, 50), (1, 6, 60))
        steps(ring, 3)
        ring.switch_off(1)
        steps(ring, 10)
        self.assertEqual((ring.messages(1), ring.need(1)), ([(3, 50), (6, 60)], 4))
        ring.switch_on(1)
        # Nobody has won the round that begins at time 13: station 1 was off for whole rounds.
        self.assertEqual(ring.tokens(), [(1, 0, 0)])
        steps(ring, 1)
        self.assertEqual(ring.need(1), 5)
        steps(ring, 2)
        self.assertEqual(rows_of(ring, "sent"), [])
        steps(ring, 1)
        self.assertEqual(rows_of(ring, "sent"), [("sent", 17, 1, 3, 50)])

    def test_a_token_below_the_stamp_that_it_kept_is_dropped_there(self):
        ring = Ring(3)
        ring.make(1)
        ring.switch_off(1)
        steps(ring, 2)
        ring.switch_on(1)
        self.assertEqual(ring.tokens(), [(1, 0, 0)])
        steps(ring, 1)
        self.assertEqual(ring.rows()[-1], ("dropped", 3, 1, 1, 0))
        ring.make(1)
        self.assertEqual(ring.tokens(), [(2, 1, 1)])

    def test_nothing_comes_to_it(self):
        ring = ring_of(3, (1, 3, 50))
        ring.switch_off(1)
        steps(ring, 20)
        self.assertEqual((ring.knows(1), ring.need(1)), ((0, 0), 3))
        self.assertEqual(ring.rows(), [("made", 0, 0, 1)])

    def test_messages_may_be_put_at_it(self):
        ring = Ring(3)
        ring.switch_off(1)
        ring.put(1, 2, 7)
        ring.put(1, 5, 8)
        self.assertEqual((ring.messages(1), ring.need(1)), ([(2, 7), (5, 8)], 2))
        ring.switch_on(1)
        steps(ring, 4)
        self.assertEqual(rows_of(ring, "sent"), [("sent", 4, 1, 2, 7)])

    def test_it_makes_no_token_however_long_it_is_off(self):
        ring = ring_with_on(2, [])
        steps(ring, 300)
        self.assertEqual(rows_of(ring, "made"), [("made", 0, 0, 1)])
        self.assertEqual(ring.many_on(), 0)

    def test_all_may_go_off_and_on_again(self):
        ring = ring_with_on(2, [])
        steps(ring, 5)
        ring.switch_on(1)
        steps(ring, 8)
        self.assertEqual(ring.rows()[1:], [("lost", 0, 1, 0), ("made", 13, 1, 1)])


class On(unittest.TestCase):
    """Point 8."""

    def test_it_is_on(self):
        ring = Ring(3)
        ring.switch_off(1)
        ring.switch_on(1)
        self.assertIs(ring.is_on(1), True)
        self.assertEqual(ring.many_on(), 3)

    def test_the_token_comes_to_it_again(self):
        ring = Ring(3)
        ring.switch_off(1)
        steps(ring, 2)
        ring.switch_on(1)
        steps(ring, 1)
        self.assertEqual(ring.tokens(), [(1, 0, 1)])

    def test_it_has_heard_a_token_just_then(self):
        ring = Ring(3)
        ring.lose(0)
        steps(ring, 3)
        ring.switch_off(0)
        steps(ring, 2)
        ring.switch_on(0)
        steps(ring, 4)
        self.assertEqual(ring.tokens(), [])
        steps(ring, 1)
        self.assertEqual(ring.rows()[-1], ("made", 10, 0, 2))


class Rows(unittest.TestCase):
    """Point 9."""

    def test_they_stand_in_the_order_in_which_it_happened(self):
        ring = ring_of(3, (1, 3, 50))
        steps(ring, 4)
        ring.make(2)
        steps(ring, 1)
        ring.lose(0)
        ring.switch_off(1)
        steps(ring, 5)
        self.assertEqual(ring.rows(), [
            ("made", 0, 0, 1),
            ("sent", 4, 1, 3, 50),
            ("made", 4, 2, 2),
            ("dropped", 5, 2, 1, 0),
            ("lost", 5, 2, 2),
            ("made", 10, 0, 3),
        ])


if __name__ == "__main__":
    unittest.main()
