"""Points 2, 3, 5, 7 and 11: the rules that ask nothing but numbers."""

import itertools
import unittest

from passring.rules import bound, greater, limit, next_on


class Greater(unittest.TestCase):
    """Point 3."""

    def check(self, low, high):
        with self.subTest(low=low, high=high):
            self.assertIs(greater(high, low), True)
            self.assertIs(greater(low, high), False)

    def test_the_greater_number_is_greater(self):
        self.check((1, 0), (2, 0))
        self.check((0, 0), (1, 0))

    def test_the_number_goes_before_the_maker(self):
        self.check((1, 11), (2, 0))
        self.check((9, 11), (10, 0))
        self.check((1, 5), (2, 5))

    def test_of_one_number_the_greater_maker_is_greater(self):
        for low, high in itertools.combinations(range(12), 2):
            self.check((3, low), (3, high))

    def test_makers_compare_as_numbers_not_as_words(self):
        self.check((3, 2), (3, 10))
        self.check((3, 9), (3, 11))

    def test_a_stamp_is_not_greater_than_one_like_it(self):
        for number in (0, 1, 7, 10 ** 40):
            for maker in range(12):
                with self.subTest(number=number, maker=maker):
                    self.assertIs(greater((number, maker), (number, maker)), False)

    def test_numbers_of_any_size(self):
        huge = 10 ** 40
        self.check((0, 11), (huge, 0))
        self.check((huge, 11), (huge + 1, 0))
        self.check((huge, 0), (huge, 1))

    def test_of_any_two_stamps_it_is_one_or_they_are_alike(self):
        stamps = list(itertools.product((0, 1, 2, 99, 2 ** 64), (0, 1, 10, 11)))
        for one, other in itertools.product(stamps, stamps):
            with self.subTest(one=one, other=other):
                self.assertEqual(greater(one, other) + greater(other, one), int(one != other))


class NextOn(unittest.TestCase):
    """Points 2 and 5."""

    def test_the_next_one_where_all_are_on(self):
        self.assertEqual(next_on([True] * 4, 0), 1)
        self.assertEqual(next_on([True] * 4, 2), 3)

    def test_behind_the_last_one_comes_the_first(self):
        self.assertEqual(next_on([True] * 4, 3), 0)
        self.assertEqual(next_on([True] * 12, 11), 0)

    def test_those_that_are_off_are_passed_over(self):
        self.assertEqual(next_on([True, False, False, True], 0), 3)
        self.assertEqual(next_on([True, False, False, False, True], 1), 4)

    def test_the_way_round_passes_over_those_that_are_off(self):
        self.assertEqual(next_on([False, True, True, False], 2), 1)
        self.assertEqual(next_on([False, False, True, True], 3), 2)

    def test_the_nearest_one_is_told_not_the_lowest(self):
        self.assertEqual(next_on([True, True, True, False, True, True], 2), 4)

    def test_at_may_be_off(self):
        self.assertEqual(next_on([True, False, True], 1), 2)
        self.assertEqual(next_on([True, True, False], 2), 0)

    def test_the_asked_one_alone_on_is_the_answer(self):
        for at in range(12):
            on = [False] * 12
            on[at] = True
            with self.subTest(at=at):
                self.assertEqual(next_on(on, at), at)

    def test_the_asked_one_is_asked_last(self):
        for at in range(12):
            for other in range(12):
                on = [False] * 12
                on[at] = True
                on[other] = True
                with self.subTest(at=at, other=other):
                    self.assertEqual(next_on(on, at), other)

    def test_one_other_alone_on_is_the_answer_from_everywhere(self):
        for at in range(12):
            for other in range(12):
                on = [False] * 12
                on[other] = True
                with self.subTest(at=at, other=other):
                    self.assertEqual(next_on(on, at), other)

    def test_none_on(self):
        for many in (1, 2, 12):
            for at in range(many):
                with self.subTest(many=many, at=at):
                    self.assertIsNone(next_on([False] * many, at))

    def test_a_ring_of_one(self):
        self.assertEqual(next_on([True], 0), 0)
        self.assertIsNone(next_on([False], 0))

    def test_every_ring_up_to_six(self):
        for many in range(1, 7):
            for on in itertools.product((False, True), repeat=many):
                for at in range(many):
                    with self.subTest(on=on, at=at):
                        self.assertEqual(next_on(list(on), at), self.first_on_behind(on, at))

    def first_on_behind(self, on, at):
        numbers = list(range(len(on)))
        way = numbers[at + 1:] + numbers[:at + 1]
        return next((number for number in way if on[number]), None)

    def test_the_list_is_left_as_it_is(self):
        on = [True, False, True]
        next_on(on, 2)
        self.assertEqual(on, [True, False, True])


class Limit(unittest.TestCase):
    """Point 7."""

    def test_of_station_0(self):
        self.assertEqual([limit(many, 0) for many in range(1, 13)], list(range(2, 14)))

    def test_of_the_last_station(self):
        self.assertEqual(limit(1, 0), 2)
        self.assertEqual(limit(2, 1), 7)
        self.assertEqual(limit(3, 2), 16)
        self.assertEqual(limit(12, 11), 277)

    def test_of_those_between(self):
        self.assertEqual([limit(4, station) for station in range(4)], [5, 13, 21, 29])
        self.assertEqual(limit(12, 5), 133)


class Bound(unittest.TestCase):
    """Point 11."""

    def test_of_one_and_of_twelve(self):
        self.assertEqual(bound(1), 11)
        self.assertEqual(bound(12), 264)

    def test_of_all_numbers_of_stations(self):
        told = [bound(many) for many in range(1, 13)]
        self.assertEqual(told, [11, 24, 39, 56, 75, 96, 119, 144, 171, 200, 231, 264])


if __name__ == "__main__":
    unittest.main()
