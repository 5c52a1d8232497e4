"""Points 1, 2 and 6: one station."""

import unittest

from passring.stations import Station


def station_with(*messages):
    station = Station()
    for rank, mark in messages:
        station.put(rank, mark)
    return station


class AtFirst(unittest.TestCase):

    def test_it_is_on(self):
        self.assertIs(Station().on, True)

    def test_it_has_seen_the_stamp_of_noughts(self):
        seen = Station().seen
        self.assertIs(type(seen), tuple)
        self.assertEqual(seen, (0, 0))

    def test_it_has_heard_none_for_no_steps(self):
        self.assertEqual(Station().silence, 0)
        self.assertIs(type(Station().silence), int)

    def test_it_has_no_message_and_no_need(self):
        self.assertEqual(Station().messages(), [])
        self.assertIsNone(Station().need())


class Row(unittest.TestCase):

    def test_put_answers_none(self):
        self.assertIsNone(Station().put(1, 2))

    def test_messages_stand_in_the_order_in_which_they_were_put(self):
        station = station_with((2, 30), (7, 10), (0, 20))
        self.assertEqual(station.messages(), [(2, 30), (7, 10), (0, 20)])

    def test_messages_are_pairs(self):
        self.assertEqual([type(pair) for pair in station_with((2, 30)).messages()], [tuple])

    def test_like_messages_stand_there_as_often_as_they_were_put(self):
        station = station_with((1, 5), (1, 5))
        self.assertEqual(station.messages(), [(1, 5), (1, 5)])
        station.send()
        self.assertEqual(station.messages(), [(1, 5)])

    def test_send_takes_the_first_one(self):
        station = station_with((0, 30), (7, 10), (3, 20))
        self.assertEqual(station.send(), (0, 30))
        self.assertEqual(station.messages(), [(7, 10), (3, 20)])
        self.assertEqual(station.send(), (7, 10))
        self.assertEqual(station.send(), (3, 20))
        self.assertEqual(station.messages(), [])

    def test_what_is_sent_is_a_pair(self):
        self.assertIs(type(station_with((2, 30)).send()), tuple)

    def test_the_edges_of_rank_and_mark(self):
        edges = [(0, 0), (0, 10 ** 9), (7, 0), (7, 10 ** 9)]
        station = station_with(*edges)
        self.assertEqual(station.messages(), edges)
        self.assertEqual([station.send() for _ in edges], edges)

    def test_the_row_may_be_empty_and_be_filled_again(self):
        station = station_with((4, 1))
        station.send()
        self.assertIsNone(station.need())
        station.put(2, 9)
        self.assertEqual(station.messages(), [(2, 9)])
        self.assertEqual(station.need(), 2)

    def test_many_messages(self):
        row = [(number % 8, number) for number in range(60)]
        station = station_with(*row)
        self.assertEqual(station.messages(), row)
        self.assertEqual([station.send() for _ in row], row)


class Need(unittest.TestCase):

    def test_at_first_it_is_the_rank(self):
        for rank in range(8):
            with self.subTest(rank=rank):
                self.assertEqual(station_with((rank, 10 ** 9)).need(), rank)

    def test_need_is_that_of_the_first_message_alone(self):
        self.assertEqual(station_with((1, 5), (7, 6)).need(), 1)

    def test_asking_changes_nothing(self):
        station = station_with((3, 5), (6, 6))
        self.assertEqual([station.need() for _ in range(5)], [3] * 5)
        self.assertEqual(station.tell(), 3)
        self.assertEqual([station.need() for _ in range(5)], [4] * 5)
        self.assertEqual(station.messages(), [(3, 5), (6, 6)])

    def test_asking_without_a_message_changes_nothing(self):
        station = Station()
        self.assertEqual([station.need() for _ in range(5)], [None] * 5)
        station.put(2, 1)
        self.assertEqual(station.need(), 2)

    def test_tell_tells_the_need_and_then_counts(self):
        for rank in (0, 7):
            with self.subTest(rank=rank):
                station = station_with((rank, 1))
                self.assertEqual([station.tell() for _ in range(4)], [rank, rank + 1, rank + 2, rank + 3])
                self.assertEqual(station.need(), rank + 4)

    def test_a_need_told_very_often_has_no_end(self):
        station = station_with((7, 1))
        for _ in range(3000):
            station.tell()
        self.assertEqual(station.need(), 3007)
        self.assertEqual(station.send(), (7, 1))

    def test_telling_leaves_the_messages_as_they_are(self):
        station = station_with((3, 5), (6, 6))
        station.tell()
        self.assertEqual(station.messages(), [(3, 5), (6, 6)])
        station.tell()
        self.assertEqual(station.send(), (3, 5))

    def test_the_next_one_has_told_nothing(self):
        station = station_with((3, 5), (1, 6), (2, 7))
        for _ in range(20):
            station.tell()
        station.send()
        self.assertEqual(station.need(), 1)
        self.assertEqual(station.tell(), 1)
        self.assertEqual(station.tell(), 2)
        station.send()
        self.assertEqual(station.tell(), 2)

    def test_the_next_one_has_told_nothing_where_it_is_put_later(self):
        station = station_with((3, 5))
        station.tell()
        station.tell()
        station.send()
        self.assertIsNone(station.need())
        station.put(4, 6)
        self.assertEqual(station.tell(), 4)

    def test_a_like_message_starts_its_counting_anew(self):
        station = station_with((3, 5), (3, 5))
        station.tell()
        station.send()
        self.assertEqual(station.need(), 3)

    def test_putting_behind_the_first_one_leaves_its_counting(self):
        station = station_with((3, 5))
        station.tell()
        station.tell()
        station.put(7, 6)
        self.assertEqual(station.need(), 5)

    def test_the_fields_are_left_as_they_are(self):
        station = station_with((3, 5))
        station.need()
        station.tell()
        station.messages()
        station.send()
        self.assertEqual((station.on, station.seen, station.silence), (True, (0, 0), 0))


class AskersOwn(unittest.TestCase):
    """Point 1."""

    def test_each_list_told_is_a_new_one(self):
        for station in (Station(), station_with((1, 2))):
            self.assertIsNot(station.messages(), station.messages())

    def test_changing_a_list_told_changes_nothing(self):
        station = station_with((1, 2), (3, 4))
        told = station.messages()
        told.append((7, 7))
        told[0] = (6, 6)
        self.assertEqual(station.messages(), [(1, 2), (3, 4)])
        told.clear()
        self.assertEqual(station.messages(), [(1, 2), (3, 4)])
        self.assertEqual(station.need(), 1)
        self.assertEqual(station.send(), (1, 2))

    def test_changing_an_empty_list_told_changes_nothing(self):
        station = Station()
        station.messages().append((7, 7))
        self.assertEqual(station.messages(), [])
        self.assertIsNone(station.need())

    def test_a_list_told_stays_whatever_is_done_later(self):
        station = station_with((1, 2))
        told = station.messages()
        station.put(3, 4)
        station.tell()
        station.send()
        station.messages().clear()
        self.assertEqual(told, [(1, 2)])

    def test_two_stations_share_nothing(self):
        one = station_with((1, 2), (3, 4))
        other = Station()
        self.assertEqual(other.messages(), [])
        other.put(5, 6)
        one.tell()
        one.tell()
        self.assertEqual(other.need(), 5)
        other.send()
        self.assertEqual(one.need(), 3)
        self.assertEqual(one.messages(), [(1, 2), (3, 4)])


if __name__ == "__main__":
    unittest.main()
