"""Point 13: the desk."""

import unittest

from passring.desk import played

NOT = "not understood"


def behind(first, *rows):
    """The answers to these rows behind a first one, without the answer to that."""
    return played("\n".join((first,) + rows))[1:]


class Rows(unittest.TestCase):

    def test_each_row_has_an_answer(self):
        self.assertEqual(played("ring 3\nput 1 3 50\nsteps 4"), ["ring", "put", "sent 1:50"])

    def test_an_empty_row_has_one_too(self):
        self.assertEqual(played("ring 3\n\ntokens"), ["ring", NOT, "1.0@0"])
        self.assertEqual(played("\nring 3"), [NOT, "ring"])
        self.assertEqual(played("\n\n"), [NOT, NOT, NOT])

    def test_an_empty_text_is_one_empty_row(self):
        self.assertEqual(played(""), [NOT])

    def test_behind_a_line_end_stands_one_more_row(self):
        self.assertEqual(played("ring 3\n"), ["ring", NOT])

    def test_the_answers_are_a_list_of_texts(self):
        answers = played("ring 3\ntokens\nnothing\nmake 9")
        self.assertIs(type(answers), list)
        self.assertEqual([type(answer) for answer in answers], [str] * 4)


class FirstRow(unittest.TestCase):

    def test_rings_of_each_number_of_stations(self):
        for many in range(1, 13):
            with self.subTest(many=many):
                self.assertEqual(played(f"ring {many}\ntokens"), ["ring", "1.0@0"])
                answers = behind(f"ring {many}", f"put {many - 1} 0 0", f"put {many} 0 0")
                self.assertEqual(answers, ["put", "refused: NoStation"])

    def test_what_is_no_number_of_stations_is_refused(self):
        for many in (0, 13, 14, 999999999999):
            with self.subTest(many=many):
                self.assertEqual(played(f"ring {many}"), ["refused: NoRing"])

    def test_a_ring_refused_makes_none(self):
        text = "ring 13\ntokens\nput 0 1 1\nring 0\nring 2\nmake 1\nmake 2\ntokens"
        self.assertEqual(played(text), [
            "refused: NoRing", NOT, NOT, "refused: NoRing", "ring", "made", "refused: NoStation", "1.1@1 1.0@0"])

    def test_another_row_ahead_of_a_ring(self):
        for row in ("tokens", "steps 1", "steps 0", "put 0 1 1", "lose 0", "make 0", "off 0", "on 0", "make 99"):
            with self.subTest(row=row):
                self.assertEqual(played(f"{row}\nring 3\ntokens"), [NOT, "ring", "1.0@0"])

    def test_a_ring_behind_a_ring(self):
        rows = ("off 0", "ring 3", "ring 13", "ring 0", "ring", "ring 2 2", "put 3 1 1", "tokens")
        self.assertEqual(behind("ring 2", *rows), ["off", NOT, NOT, NOT, NOT, NOT, "refused: NoStation", "none"])


class Words(unittest.TestCase):

    def test_put(self):
        answers = behind("ring 2", "put 1 0 0", "put 0 7 1000000000", "steps 3", "steps 1")
        self.assertEqual(answers, ["put", "put", "sent 1:0", "sent 0:1000000000"])

    def test_steps_tells_the_messages_sent_in_these_steps_only(self):
        rows = ("put 1 2 10", "put 2 5 20", "put 3 4 30", "steps 5", "steps 1", "steps 7", "steps 1000")
        answers = behind("ring 4", *rows)
        self.assertEqual(answers[3:], ["sent", "sent 2:20", "sent 3:30 1:10", "sent"])

    def test_steps_tells_nothing_but_what_is_sent(self):
        rows = ("put 2 5 7", "make 1", "make 2", "steps 1", "lose 0", "steps 50")
        self.assertEqual(behind("ring 3", *rows), ["put", "made", "made", "sent", "lost", "sent 2:7"])

    def test_steps_0_does_none(self):
        self.assertEqual(behind("ring 3", "steps 0", "tokens"), ["sent", "1.0@0"])

    def test_steps_does_so_many(self):
        self.assertEqual(behind("ring 3", "steps 1", "tokens", "steps 4", "tokens"), [
            "sent", "1.0@1", "sent", "1.0@2"])

    def test_steps_up_to_1000(self):
        self.assertEqual(behind("ring 12", "steps 999", "tokens"), ["sent", "1.0@3"])
        self.assertEqual(behind("ring 12", "steps 1000", "tokens"), ["sent", "1.0@4"])

    def test_steps_beyond_1000_are_not_understood_and_not_done(self):
        for many in (1001, 1002, 9999, 999999999999):
            with self.subTest(many=many):
                self.assertEqual(behind("ring 12", f"steps {many}", "tokens"), [NOT, "1.0@0"])

    def test_lose(self):
        rows = ("make 1", "lose 1", "tokens", "lose 1", "lose 0", "lose 0", "tokens")
        self.assertEqual(behind("ring 2", *rows), [
            "made", "lost", "1.1@1", "refused: NoToken", "lost", "refused: NoToken", "none"])

    def test_make(self):
        self.assertEqual(behind("ring 12", "make 11", "make 11", "tokens"), [
            "made", "made", "2.11@11 1.11@11 1.0@0"])

    def test_off_and_on(self):
        rows = ("off 1", "off 1", "make 1", "on 1", "on 1", "make 1", "off 0", "tokens")
        self.assertEqual(behind("ring 2", *rows), [
            "off", "refused: IsOff", "refused: IsOff", "on", "refused: IsOn", "made", "off", "1.1@1"])

    def test_put_at_a_station_that_is_off(self):
        self.assertEqual(behind("ring 2", "off 1", "put 1 1 5", "on 1", "steps 3"), ["off", "put", "on", "sent 1:5"])

    def test_tokens_the_greatest_first(self):
        rows = ("make 1", "make 2", "make 0", "tokens", "steps 1", "tokens")
        self.assertEqual(behind("ring 3", *rows)[3:], ["2.0@0 1.2@2 1.1@1 1.0@0", "sent", "2.0@1"])

    def test_tokens_of_numbers_with_several_figures(self):
        rows = ["make 10"] * 12 + ["lose 12", "lose 11"]
        answers = behind("ring 11", *rows, "tokens")
        told = " ".join(f"{number}.10@10" for number in range(12, 1, -1))
        self.assertEqual(answers[-1], told)

    def test_no_tokens(self):
        self.assertEqual(behind("ring 3", "lose 0", "tokens"), ["lost", "none"])


class Refused(unittest.TestCase):

    def test_no_station(self):
        for row in ("put 3 0 0", "make 3", "off 3", "on 3", "make 999999999999"):
            with self.subTest(row=row):
                self.assertEqual(behind("ring 3", row), ["refused: NoStation"])

    def test_no_message(self):
        for row in ("put 0 8 0", "put 0 0 1000000001", "put 0 999999999999 999999999999"):
            with self.subTest(row=row):
                self.assertEqual(behind("ring 3", row), ["refused: NoMessage"])

    def test_no_token(self):
        for row in ("lose 1", "lose 999999999999"):
            with self.subTest(row=row):
                self.assertEqual(behind("ring 3", row), ["refused: NoToken"])

    def test_off_and_on(self):
        self.assertEqual(behind("ring 3", "on 0"), ["refused: IsOn"])
        self.assertEqual(behind("ring 3", "off 0", "off 0", "make 0"), ["off", "refused: IsOff", "refused: IsOff"])

    def test_of_two_faults_the_first_due_is_told(self):
        self.assertEqual(behind("ring 3", "put 3 8 1000000001"), ["refused: NoStation"])

    def test_what_is_refused_changes_nothing(self):
        refused = ("put 0 8 0", "make 3", "on 0", "lose 1", "put 3 0 0")
        self.assertEqual(behind("ring 3", *refused, "tokens", "steps 100")[-2:], ["1.0@0", "sent"])


class NotUnderstood(unittest.TestCase):

    GOOD = ("put 1 2 3", "steps 1", "lose 0", "make 1", "off 1", "on 1", "tokens")

    def check_not_understood(self, row):
        with self.subTest(row=row):
            # A ring with a token at 0 and station 1 on: nothing of this has changed behind the row.
            self.assertEqual(behind("ring 2", row, "tokens", "on 1"), [NOT, "1.0@0", "refused: IsOn"])

    def test_other_words(self):
        for row in ("go", "step 1", "sent", "Tokens", "TOKENS", "token", "1", "0 tokens", "puts 1 2 3", "-", "~"):
            self.check_not_understood(row)

    def test_more_words(self):
        for row in self.GOOD:
            for more in (" 1", " x", " 1 2", " tokens"):
                self.check_not_understood(row + more)

    def test_fewer_words(self):
        for row in ("put", "put 1", "put 1 2", "steps", "lose", "make", "off", "on"):
            self.check_not_understood(row)

    def test_one_blank_more(self):
        for row in self.GOOD:
            self.check_not_understood(" " + row)
            self.check_not_understood(row + " ")
            if " " in row:
                self.check_not_understood(row.replace(" ", "  ", 1))

    def test_blanks_alone(self):
        for row in (" ", "  ", "   ", "    "):
            self.check_not_understood(row)

    def test_a_tab(self):
        for row in self.GOOD:
            self.check_not_understood("\t" + row)
            self.check_not_understood(row + "\t")
            if " " in row:
                self.check_not_understood(row.replace(" ", "\t", 1))
                self.check_not_understood(row.replace(" ", " \t", 1))
        self.check_not_understood("\t")

    def test_no_blank_between(self):
        for row in ("put1 2 3", "steps1", "lose0", "make1", "off1"):
            self.check_not_understood(row)

    def test_a_nought_ahead_of_other_figures(self):
        for number in ("00", "01", "007", "000000000001"):
            for row in ("put {} 2 3", "put 1 {} 3", "put 1 2 {}", "steps {}", "lose {}", "make {}", "off {}"):
                self.check_not_understood(row.format(number))

    def test_13_figures(self):
        for row in ("put {} 2 3", "put 1 {} 3", "put 1 2 {}", "steps {}", "lose {}", "make {}", "off {}", "on {}"):
            for number in ("1000000000000", "9" * 13, "0" * 13, "1" * 5000):
                self.check_not_understood(row.format(number))

    def test_12_figures_are_a_number(self):
        for row in ("put {} 2 3", "make {}", "off {}", "on {}"):
            for number in ("100000000000", "9" * 12):
                with self.subTest(row=row, number=number):
                    self.assertEqual(behind("ring 2", row.format(number)), ["refused: NoStation"])

    def test_what_is_no_number_in_figures(self):
        for number in ("-1", "+1", "-0", "1.0", "1.", "1e1", "0x1", "1_0", "one", "x", "True", "None", "1,", "'1'"):
            for row in ("put {} 2 3", "put 1 {} 3", "put 1 2 {}", "steps {}", "lose {}", "make {}", "off {}"):
                self.check_not_understood(row.format(number))

    def test_signs_beyond_the_figures(self):
        for number in ("\u00b2", "\u0661", "\uff11"):
            self.check_not_understood(f"make {number}")

    def test_a_fault_of_form_goes_before_a_refusal(self):
        for row in ("put 3 8 x", "put 9 9", "make 09", "lose 5 5", "put 3 8 1000000000000"):
            self.check_not_understood(row)

    def test_a_ring_that_is_not_understood_makes_none(self):
        for row in ("ring", "ring 03", "ring 3 3", "ring  3", "ring 3 ", " ring 3", "ring\t3", "ring x", "ring -3",
                    "ring 1000000000000", "Ring 3", "rings 3"):
            with self.subTest(row=row):
                self.assertEqual(played(f"{row}\ntokens\nring 2\ntokens"), [NOT, NOT, "ring", "1.0@0"])


if __name__ == "__main__":
    unittest.main()
