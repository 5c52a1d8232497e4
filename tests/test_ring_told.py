"""Point 1 over the whole program: what is told is the asker's own, and rings share nothing."""

import random
import unittest

from helpers import all_told, ring_of, steps
from passring.desk import played
from passring.rings import Ring


def ring_underway():
    """A ring of three with a message, a token and rows."""
    ring = ring_of(3, (1, 3, 50), (2, 7, 60), (1, 2, 70))
    steps(ring, 5)
    ring.make(0)
    return ring


# Each method that tells a list.
LISTS = {
    "tokens": lambda ring: ring.tokens(),
    "rows": lambda ring: ring.rows(),
    "messages": lambda ring: ring.messages(1),
}


class AskersOwn(unittest.TestCase):

    def test_each_list_told_is_a_new_one(self):
        for ring in (Ring(3), ring_underway()):
            for name, ask in LISTS.items():
                with self.subTest(name=name):
                    self.assertIsNot(ask(ring), ask(ring))

    def test_changing_a_list_told_changes_nothing(self):
        for ring in (Ring(3), ring_underway()):
            told = all_told(ring, 3)
            for name, ask in LISTS.items():
                with self.subTest(name=name):
                    ask(ring).append("more")
                    ask(ring).clear()
                    changed = ask(ring)
                    changed[:] = ["other"] * len(changed)
                    self.assertEqual(all_told(ring, 3), told)

    def test_changing_lists_told_changes_nothing_that_comes_later(self):
        ring = ring_underway()
        other = ring_underway()
        for _ in range(30):
            for ask in LISTS.values():
                ask(ring).clear()
                ask(ring).append((9, 9, 9))
            ring.step()
            other.step()
            self.assertEqual(all_told(ring, 3), all_told(other, 3))

    def test_a_list_told_stays_whatever_is_done_later(self):
        ring = ring_underway()
        lists = {name: ask(ring) for name, ask in LISTS.items()}
        copies = {name: list(told) for name, told in lists.items()}
        steps(ring, 10)
        ring.put(1, 0, 0)
        ring.make(1)
        ring.lose(0)
        ring.switch_off(1)
        ring.switch_on(1)
        self.assertEqual(lists, copies)
        for name, ask in LISTS.items():
            ask(ring).clear()
        self.assertEqual(lists, copies)

    def test_asking_changes_nothing(self):
        ring = ring_underway()
        other = ring_underway()
        for _ in range(30):
            self.assertEqual(all_told(ring, 3), all_told(ring, 3))
            ring.step()
            other.step()
        self.assertEqual(all_told(ring, 3), all_told(other, 3))

    def test_the_answers_of_the_desk_are_a_new_list(self):
        text = "ring 2\ntokens"
        answers = played(text)
        answers.clear()
        self.assertEqual(played(text), ["ring", "1.0@0"])
        self.assertIsNot(played(text), played(text))


class Apart(unittest.TestCase):

    def test_two_rings_share_nothing(self):
        one = Ring(3)
        other = Ring(3)
        told = all_told(other, 3)
        one.put(1, 3, 50)
        steps(one, 4)
        one.make(1)
        one.switch_off(2)
        one.lose(0)
        self.assertEqual(all_told(other, 3), told)
        self.assertEqual(all_told(Ring(3), 3), told)

    def test_a_ring_beside_another_does_what_it_does_alone(self):
        alone = ring_underway()
        steps(alone, 20)
        one = ring_underway()
        other = Ring(12)
        for _ in range(20):
            one.step()
            other.put(11, 7, 1)
            other.step()
            other.make(5)
        self.assertEqual(all_told(one, 3), all_told(alone, 3))


class Alike(unittest.TestCase):

    def random_text(self, seed):
        chance = random.Random(seed)
        rows = [f"ring {chance.randint(1, 12)}"]
        for _ in range(200):
            word = chance.choice(["put", "steps", "lose", "make", "off", "on", "tokens", "ring"])
            rows.append(" ".join([word] + [str(chance.randint(0, 12)) for _ in range(chance.choice([1, 1, 3]))]))
            rows.append(f"put {chance.randint(0, 12)} {chance.randint(0, 8)} {chance.randint(0, 99)}")
            rows.append("tokens")
        return "\n".join(rows)

    def test_the_same_text_played_twice_answers_the_same(self):
        for seed in range(5):
            text = self.random_text(seed)
            answers = played(text)
            played(self.random_text(seed + 100))
            with self.subTest(seed=seed):
                self.assertEqual(played(text), answers)
                self.assertEqual(len(answers), len(text.split("\n")))

    def test_the_same_done_twice_is_told_the_same(self):
        one = ring_underway()
        other = ring_underway()
        steps(one, 50)
        steps(other, 50)
        self.assertEqual(all_told(one, 3), all_told(other, 3))


if __name__ == "__main__":
    unittest.main()
