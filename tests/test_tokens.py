"""Points 3, 5 and 6: one token."""

import unittest

from passring.tokens import Token


def token_told(*needs):
    """A token that was told these pairs (need, station) in its round."""
    token = Token(4, 2, 2)
    for need, station in needs:
        token.hear(need, station)
    return token


class AtFirst(unittest.TestCase):

    def test_its_fields_are_what_it_was_made_with(self):
        token = Token(7, 3, 5)
        self.assertEqual((token.number, token.maker, token.at), (7, 3, 5))

    def test_it_has_no_winner_and_was_told_no_need(self):
        token = Token(7, 3, 5)
        self.assertIsNone(token.winner)
        self.assertIsNone(token.best)

    def test_its_stamp_is_the_pair_of_number_and_maker(self):
        for number, maker, at in ((1, 0, 0), (7, 3, 5), (2, 11, 0), (10 ** 40, 0, 11)):
            with self.subTest(number=number, maker=maker):
                stamp = Token(number, maker, at).stamp()
                self.assertIs(type(stamp), tuple)
                self.assertEqual(stamp, (number, maker))


class Hear(unittest.TestCase):
    """Point 6."""

    def test_it_answers_none(self):
        token = Token(1, 0, 0)
        self.assertIsNone(token.hear(3, 1))
        self.assertIsNone(token.hear(2, 2))

    def test_one_need_is_kept_with_its_station(self):
        token = token_told((3, 1))
        self.assertIs(type(token.best), tuple)
        self.assertEqual(token.best, (3, 1))

    def test_a_need_of_nought_is_a_need(self):
        self.assertEqual(token_told((0, 0)).best, (0, 0))

    def test_a_greater_one_takes_its_place(self):
        self.assertEqual(token_told((3, 1), (4, 2)).best, (4, 2))
        self.assertEqual(token_told((0, 5), (1, 0)).best, (1, 0))

    def test_a_lesser_one_does_not(self):
        self.assertEqual(token_told((3, 1), (2, 2)).best, (3, 1))
        self.assertEqual(token_told((3, 1), (0, 0)).best, (3, 1))

    def test_of_like_ones_the_one_told_first_is_kept(self):
        self.assertEqual(token_told((3, 1), (3, 2)).best, (3, 1))
        self.assertEqual(token_told((3, 2), (3, 1)).best, (3, 2))
        self.assertEqual(token_told((0, 4), (0, 5), (0, 3)).best, (0, 4))

    def test_the_best_of_many(self):
        token = token_told((2, 0), (9, 1), (4, 2), (9, 3), (12, 4), (11, 5), (12, 6))
        self.assertEqual(token.best, (12, 4))

    def test_needs_compare_as_numbers_not_as_words(self):
        self.assertEqual(token_told((9, 1), (10, 2)).best, (10, 2))

    def test_the_other_fields_are_left_as_they_are(self):
        token = token_told((3, 1), (4, 2))
        self.assertEqual((token.number, token.maker, token.at, token.winner), (4, 2, 2, None))


class BeginRound(unittest.TestCase):
    """Point 5."""

    def test_it_answers_none(self):
        self.assertIsNone(Token(1, 0, 0).begin_round())
        self.assertIsNone(token_told((3, 1)).begin_round())

    def test_the_station_of_the_best_need_wins(self):
        token = token_told((3, 1), (5, 6), (4, 2))
        token.begin_round()
        self.assertEqual(token.winner, 6)

    def test_station_0_and_need_0_win_too(self):
        token = token_told((0, 0))
        token.begin_round()
        self.assertEqual(token.winner, 0)

    def test_the_best_need_is_forgotten(self):
        token = token_told((3, 1))
        token.begin_round()
        self.assertIsNone(token.best)

    def test_a_lesser_need_is_the_best_one_of_a_new_round(self):
        token = token_told((9, 1))
        token.begin_round()
        token.hear(2, 3)
        self.assertEqual(token.best, (2, 3))
        self.assertEqual(token.winner, 1)
        token.begin_round()
        self.assertEqual(token.winner, 3)

    def test_nobody_wins_where_none_was_told(self):
        token = Token(1, 0, 0)
        token.begin_round()
        self.assertIsNone(token.winner)
        self.assertIsNone(token.best)

    def test_nobody_wins_where_none_was_told_even_behind_a_winner(self):
        token = token_told((3, 1))
        token.begin_round()
        token.begin_round()
        self.assertIsNone(token.winner)

    def test_the_other_fields_are_left_as_they_are(self):
        token = token_told((3, 1))
        token.begin_round()
        self.assertEqual((token.number, token.maker, token.at), (4, 2, 2))


class Apart(unittest.TestCase):
    """Point 1."""

    def test_two_tokens_share_nothing(self):
        one = token_told((3, 1))
        other = Token(4, 2, 2)
        self.assertIsNone(other.best)
        one.begin_round()
        self.assertIsNone(other.winner)


if __name__ == "__main__":
    unittest.main()
