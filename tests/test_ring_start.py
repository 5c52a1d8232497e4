"""Points 2, 3, 4 and 9: a ring as it begins."""

import unittest

from passring.rings import Ring


class AtFirst(unittest.TestCase):

    def test_time_is_nought(self):
        for many in range(1, 13):
            time = Ring(many).time()
            self.assertEqual(time, 0)
            self.assertIs(type(time), int)

    def test_all_stations_are_on(self):
        for many in range(1, 13):
            ring = Ring(many)
            self.assertEqual(ring.many_on(), many)
            self.assertIs(type(ring.many_on()), int)
            for station in range(many):
                self.assertIs(ring.is_on(station), True)

    def test_no_station_has_a_message(self):
        for many in range(1, 13):
            ring = Ring(many)
            for station in range(many):
                self.assertEqual(ring.messages(station), [])
                self.assertIsNone(ring.need(station))

    def test_station_0_has_made_the_one_token(self):
        for many in range(1, 13):
            self.assertEqual(Ring(many).tokens(), [(1, 0, 0)])

    def test_the_first_row_is_that_of_the_first_token(self):
        for many in range(1, 13):
            self.assertEqual(Ring(many).rows(), [("made", 0, 0, 1)])

    def test_station_0_knows_the_stamp_and_the_others_know_none(self):
        for many in range(1, 13):
            ring = Ring(many)
            known = [ring.knows(station) for station in range(many)]
            self.assertEqual(known, [(1, 0)] + [(0, 0)] * (many - 1))

    def test_the_kinds_of_what_is_told(self):
        ring = Ring(2)
        self.assertEqual([type(token) for token in ring.tokens()], [tuple])
        self.assertEqual([type(row) for row in ring.rows()], [tuple])
        self.assertIs(type(ring.tokens()), list)
        self.assertIs(type(ring.rows()), list)
        self.assertIs(type(ring.messages(0)), list)
        self.assertIs(type(ring.knows(0)), tuple)
        self.assertIs(type(ring.knows(1)), tuple)


class Messages(unittest.TestCase):
    """Point 2."""

    def test_messages_stand_at_their_station_in_the_order_in_which_they_were_put(self):
        ring = Ring(3)
        ring.put(1, 2, 30)
        ring.put(2, 7, 10)
        ring.put(1, 5, 20)
        self.assertEqual(ring.messages(0), [])
        self.assertEqual(ring.messages(1), [(2, 30), (5, 20)])
        self.assertEqual(ring.messages(2), [(7, 10)])
        self.assertEqual([type(pair) for pair in ring.messages(1)], [tuple, tuple])

    def test_the_edges_of_rank_and_mark(self):
        ring = Ring(12)
        edges = [(0, 0), (0, 10 ** 9), (7, 0), (7, 10 ** 9)]
        for station in (0, 11):
            for rank, mark in edges:
                ring.put(station, rank, mark)
            self.assertEqual(ring.messages(station), edges)

    def test_the_need_is_that_of_the_first_message(self):
        ring = Ring(2)
        ring.put(1, 3, 1)
        ring.put(1, 7, 2)
        self.assertEqual(ring.need(1), 3)
        self.assertIsNone(ring.need(0))

    def test_putting_leaves_tokens_rows_and_time_as_they_are(self):
        ring = Ring(2)
        ring.put(0, 3, 1)
        self.assertEqual((ring.time(), ring.tokens(), ring.rows()), (0, [(1, 0, 0)], [("made", 0, 0, 1)]))


class Answers(unittest.TestCase):
    """What the interface says to answer None."""

    def test_what_is_done_answers_none(self):
        ring = Ring(2)
        self.assertIsNone(ring.put(0, 1, 1))
        self.assertIsNone(ring.step())
        self.assertIsNone(ring.make(1))
        self.assertIsNone(ring.lose(0))
        self.assertIsNone(ring.switch_off(1))
        self.assertIsNone(ring.switch_on(1))


if __name__ == "__main__":
    unittest.main()
