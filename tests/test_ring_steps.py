"""Points 3, 5 and 6: one step, and what tokens and stations do in it."""

import unittest

from helpers import ring_of, ring_with_on, rows_of, steps
from passring.rings import Ring, sent_by
from passring.stations import Station
from passring.tokens import Token


def way(ring, many):
    """Where the one token is behind each of so many steps."""
    stations = []
    for _ in range(many):
        ring.step()
        [(_, _, at)] = ring.tokens()
        stations.append(at)
    return stations


class Going(unittest.TestCase):

    def test_time_is_one_more_with_each_step(self):
        ring = Ring(3)
        for time in range(1, 20):
            ring.step()
            self.assertEqual(ring.time(), time)

    def test_the_token_goes_on_and_behind_the_last_station_comes_the_first(self):
        self.assertEqual(way(Ring(3), 7), [1, 2, 0, 1, 2, 0, 1])
        self.assertEqual(way(Ring(12), 13), [1, 2, 3, 4, 5, 6, 7, 8, 9, 10, 11, 0, 1])

    def test_on_a_ring_of_one_it_comes_to_the_same_station(self):
        self.assertEqual(way(Ring(1), 3), [0, 0, 0])

    def test_stations_that_are_off_are_passed_over(self):
        self.assertEqual(way(ring_with_on(5, [0, 2, 3]), 6), [2, 3, 0, 2, 3, 0])

    def test_with_one_alone_on_it_comes_to_it_again(self):
        for alone in (0, 2, 4):
            ring = ring_with_on(5, [0, alone])
            steps(ring, 1)
            if alone != 0:
                ring.switch_off(0)
            with self.subTest(alone=alone):
                self.assertEqual(way(ring, 3), [alone] * 3)

    def test_the_stations_know_the_stamp_of_the_token_that_came(self):
        ring = Ring(3)
        known = []
        for _ in range(3):
            known.append([ring.knows(station) for station in range(3)])
            ring.step()
        self.assertEqual(known, [
            [(1, 0), (0, 0), (0, 0)],
            [(1, 0), (1, 0), (0, 0)],
            [(1, 0), (1, 0), (1, 0)],
        ])

    def test_a_token_that_comes_to_a_station_which_knows_its_own_stamp_goes_on(self):
        ring = Ring(4)
        steps(ring, 100)
        self.assertEqual(ring.tokens(), [(1, 0, 0)])
        self.assertEqual(ring.rows(), [("made", 0, 0, 1)])

    def test_with_none_on_only_time_goes_on(self):
        ring = ring_with_on(2, [])
        rows = ring.rows()
        steps(ring, 1000)
        self.assertEqual((ring.time(), ring.tokens(), ring.rows()), (1000, [], rows))


class Dropping(unittest.TestCase):

    def ring_whose_station_2_knows_more(self):
        ring = Ring(3)
        ring.make(2)
        ring.lose(0)
        self.assertEqual((ring.tokens(), ring.knows(2)), ([(1, 0, 0)], (1, 2)))
        return ring

    def test_a_token_is_dropped_where_the_station_knows_a_greater_stamp(self):
        ring = self.ring_whose_station_2_knows_more()
        steps(ring, 1)
        self.assertEqual(ring.tokens(), [(1, 0, 1)])
        steps(ring, 1)
        self.assertEqual(ring.tokens(), [])
        self.assertEqual(ring.rows()[-1], ("dropped", 2, 2, 1, 0))

    def test_the_station_goes_on_knowing_the_greater_stamp(self):
        ring = self.ring_whose_station_2_knows_more()
        steps(ring, 2)
        self.assertEqual(ring.knows(2), (1, 2))

    def test_a_token_that_is_dropped_is_told_no_need(self):
        ring = self.ring_whose_station_2_knows_more()
        ring.put(2, 5, 1)
        steps(ring, 2)
        self.assertEqual(ring.need(2), 5)

    def test_a_token_that_is_dropped_lets_its_winner_send_nothing(self):
        ring = ring_of(3, (2, 5, 1))
        steps(ring, 4)
        ring.make(2)
        ring.lose(0)
        steps(ring, 1)
        self.assertEqual(ring.rows()[-1], ("dropped", 5, 2, 1, 0))
        self.assertEqual(ring.messages(2), [(5, 1)])

    def test_a_lesser_token_is_dropped_and_the_greater_one_left(self):
        ring = Ring(3)
        ring.make(1)
        steps(ring, 1)
        self.assertEqual(ring.tokens(), [(1, 1, 2)])
        self.assertEqual(ring.rows()[2:], [("dropped", 1, 1, 1, 0)])


class SeveralTokens(unittest.TestCase):

    def test_they_are_told_the_greatest_first_by_number_then_by_maker(self):
        ring = Ring(12)
        ring.make(10)
        ring.make(2)
        self.assertEqual(ring.tokens(), [(1, 10, 10), (1, 2, 2), (1, 0, 0)])
        ring.make(0)
        self.assertEqual(ring.tokens(), [(2, 0, 0), (1, 10, 10), (1, 2, 2), (1, 0, 0)])
        ring.make(11)
        self.assertEqual(ring.tokens(), [(2, 0, 0), (1, 11, 11), (1, 10, 10), (1, 2, 2), (1, 0, 0)])

    def test_numbers_compare_as_numbers_not_as_words(self):
        ring = Ring(2)
        for _ in range(9):
            ring.make(0)
        self.assertEqual([number for number, _, _ in ring.tokens()], list(range(10, 0, -1)))

    def test_of_several_at_one_station_the_greatest_goes_first(self):
        ring = Ring(3)
        ring.make(0)
        ring.make(0)
        self.assertEqual(ring.tokens(), [(3, 0, 0), (2, 0, 0), (1, 0, 0)])
        steps(ring, 1)
        self.assertEqual(ring.tokens(), [(3, 0, 1)])
        self.assertEqual(ring.rows()[3:], [("dropped", 1, 1, 2, 0), ("dropped", 1, 1, 1, 0)])

    def test_of_several_on_a_ring_of_one_the_greatest_is_left(self):
        ring = Ring(1)
        ring.make(0)
        steps(ring, 1)
        self.assertEqual(ring.tokens(), [(2, 0, 0)])
        self.assertEqual(ring.rows()[2:], [("dropped", 1, 0, 1, 0)])

    def test_they_go_in_the_order_of_their_stamps_not_of_their_stations(self):
        ring = Ring(5)
        ring.make(4)
        ring.make(2)
        steps(ring, 1)
        self.assertEqual(ring.tokens(), [(1, 4, 0), (1, 2, 3), (1, 0, 1)])
        steps(ring, 1)
        self.assertEqual(ring.tokens(), [(1, 4, 1)])
        self.assertEqual(ring.rows()[3:], [("dropped", 2, 4, 1, 2), ("dropped", 2, 2, 1, 0)])

    def test_a_message_tells_its_need_to_each_of_two_tokens(self):
        ring = ring_of(4, (2, 3, 1))
        steps(ring, 1)
        ring.make(0)
        steps(ring, 1)
        self.assertEqual(ring.need(2), 4)
        steps(ring, 1)
        self.assertEqual(ring.tokens(), [(2, 0, 2), (1, 0, 3)])
        self.assertEqual(ring.need(2), 5)


class Sending(unittest.TestCase):

    def test_a_message_alone_is_sent_in_the_round_behind_that_in_which_it_told_its_need(self):
        ring = ring_of(3, (1, 3, 50))
        steps(ring, 3)
        self.assertEqual(rows_of(ring, "sent"), [])
        steps(ring, 1)
        self.assertEqual(ring.rows(), [("made", 0, 0, 1), ("sent", 4, 1, 3, 50)])
        self.assertEqual(ring.messages(1), [])
        self.assertIsNone(ring.need(1))

    def test_the_edges_of_rank_and_mark_are_sent(self):
        for rank, mark in ((0, 0), (7, 10 ** 9)):
            with self.subTest(rank=rank, mark=mark):
                ring = ring_of(2, (1, rank, mark))
                steps(ring, 3)
                self.assertEqual(ring.rows()[1:], [("sent", 3, 1, rank, mark)])

    def test_each_visit_of_the_token_counts(self):
        ring = ring_of(3, (1, 7, 1), (2, 3, 50))
        needs = []
        for _ in range(9):
            needs.append(ring.need(2))
            ring.step()
        self.assertEqual(needs, [3, 3, 4, 4, 4, 5, 5, 5, None])

    def test_a_message_put_where_the_token_stands_is_told_when_one_comes(self):
        ring = ring_of(3, (0, 3, 50))
        steps(ring, 2)
        self.assertEqual(ring.need(0), 3)
        steps(ring, 1)
        self.assertEqual(ring.need(0), 4)

    def test_the_round_begins_before_the_station_tells_its_need(self):
        ring = ring_of(3, (0, 5, 9))
        steps(ring, 5)
        self.assertEqual(rows_of(ring, "sent"), [])
        steps(ring, 1)
        self.assertEqual(rows_of(ring, "sent"), [("sent", 6, 0, 5, 9)])

    def test_the_next_message_tells_its_need_as_soon_as_the_first_is_sent(self):
        ring = ring_of(3, (1, 3, 50), (1, 2, 60))
        steps(ring, 4)
        self.assertEqual((ring.messages(1), ring.need(1)), ([(2, 60)], 3))
        steps(ring, 3)
        self.assertEqual(rows_of(ring, "sent"), [("sent", 4, 1, 3, 50), ("sent", 7, 1, 2, 60)])

    def test_the_winner_sends_one_message_for_one_round(self):
        ring = ring_of(3, (1, 3, 50))
        steps(ring, 4)
        ring.put(1, 7, 60)
        steps(ring, 3)
        # In the round behind the sending nothing was told, so nobody has won.
        self.assertEqual(ring.messages(1), [(7, 60)])
        steps(ring, 3)
        self.assertEqual(rows_of(ring, "sent"), [("sent", 4, 1, 3, 50), ("sent", 10, 1, 7, 60)])

    def test_the_greatest_need_wins(self):
        ring = ring_of(4, (1, 2, 10), (2, 5, 20), (3, 4, 30))
        steps(ring, 13)
        self.assertEqual(rows_of(ring, "sent"), [
            ("sent", 6, 2, 5, 20), ("sent", 11, 3, 4, 30), ("sent", 13, 1, 2, 10)])

    def test_of_needs_that_are_like_the_one_told_first_wins(self):
        ring = ring_of(3, (1, 4, 10), (2, 4, 20))
        steps(ring, 8)
        self.assertEqual(rows_of(ring, "sent"), [("sent", 4, 1, 4, 10), ("sent", 8, 2, 4, 20)])

    def test_what_the_message_told_before_counts_for_its_need(self):
        # Station 1 always has a fresh message of rank 7; in the eighth round the needs are like.
        ring = ring_of(3, (2, 0, 999), *[(1, 7, mark) for mark in range(20)])
        steps(ring, 28)
        self.assertEqual([row[3:] for row in rows_of(ring, "sent")], [(7, mark) for mark in range(8)])
        self.assertEqual(ring.need(2), 9)
        steps(ring, 1)
        self.assertEqual(rows_of(ring, "sent")[-1], ("sent", 29, 2, 0, 999))

    def test_the_next_message_is_told_anew(self):
        ring = ring_of(3, (1, 7, 1), (2, 3, 50), (2, 3, 51))
        steps(ring, 8)
        self.assertEqual(rows_of(ring, "sent"), [("sent", 4, 1, 7, 1), ("sent", 8, 2, 3, 50)])
        self.assertEqual(ring.need(2), 4)

    def test_on_a_ring_of_one_each_step_begins_a_round(self):
        ring = ring_of(1, (0, 2, 5), (0, 0, 6))
        steps(ring, 1)
        self.assertEqual(rows_of(ring, "sent"), [])
        steps(ring, 2)
        self.assertEqual(rows_of(ring, "sent"), [("sent", 2, 0, 2, 5), ("sent", 3, 0, 0, 6)])

    def test_with_one_alone_on_each_step_begins_a_round(self):
        ring = ring_with_on(3, [0, 2])
        steps(ring, 1)
        ring.switch_off(0)
        ring.put(2, 1, 8)
        steps(ring, 2)
        self.assertEqual(ring.rows()[1:], [("sent", 3, 2, 1, 8)])

    def test_a_round_begins_where_the_token_passes_over_station_0(self):
        ring = ring_with_on(4, [0, 1, 3])
        steps(ring, 1)
        ring.switch_off(0)
        ring.put(3, 1, 8)
        # It comes to 3 at time 2, to 1 at time 3, where a round begins, and to 3 again.
        steps(ring, 3)
        self.assertEqual(ring.rows()[1:], [("sent", 4, 3, 1, 8)])

    def test_no_round_begins_on_the_way_up(self):
        ring = ring_of(4, (1, 1, 8), (3, 5, 9))
        steps(ring, 5)
        # Had a round begun at 2 or at 3, station 1 would have won it.
        self.assertEqual(rows_of(ring, "sent"), [])
        steps(ring, 2)
        self.assertEqual(rows_of(ring, "sent"), [("sent", 7, 3, 5, 9)])

    def test_a_winner_that_goes_off_sends_nothing_and_the_next_round_has_another(self):
        ring = ring_of(3, (1, 4, 10), (2, 1, 20))
        steps(ring, 3)
        ring.switch_off(1)
        # Behind the round that station 1 had won comes one that station 2 wins.
        steps(ring, 2)
        self.assertEqual(rows_of(ring, "sent"), [])
        steps(ring, 1)
        self.assertEqual(rows_of(ring, "sent"), [("sent", 6, 2, 1, 20)])
        self.assertEqual(ring.messages(1), [(4, 10)])

    def test_a_token_made_later_has_no_winner(self):
        ring = ring_of(3, (1, 4, 10))
        steps(ring, 3)
        ring.lose(0)
        ring.make(0)
        steps(ring, 3)
        self.assertEqual(rows_of(ring, "sent"), [])
        steps(ring, 1)
        self.assertEqual(rows_of(ring, "sent"), [("sent", 7, 1, 4, 10)])


class Winner(unittest.TestCase):
    """A winner without a message: no ring gets there by its methods alone, so its part is tested."""

    def token_won_by_5(self):
        token = Token(1, 0, 5)
        token.hear(3, 5)
        token.begin_round()
        return token

    def test_a_winner_without_a_message_sends_nothing_and_stays_the_winner(self):
        token = self.token_won_by_5()
        self.assertIsNone(sent_by(Station(), token))
        self.assertEqual(token.winner, 5)

    def test_a_winner_with_messages_sends_the_first_and_is_the_winner_no_more(self):
        token = self.token_won_by_5()
        station = Station()
        station.put(1, 2)
        station.put(3, 4)
        self.assertEqual(sent_by(station, token), (1, 2))
        self.assertIsNone(token.winner)
        self.assertIsNone(sent_by(station, token))
        self.assertEqual(station.messages(), [(3, 4)])

    def test_another_station_sends_nothing(self):
        token = self.token_won_by_5()
        token.at = 4
        station = Station()
        station.put(1, 2)
        self.assertIsNone(sent_by(station, token))
        self.assertEqual((token.winner, station.messages()), (5, [(1, 2)]))


if __name__ == "__main__":
    unittest.main()
