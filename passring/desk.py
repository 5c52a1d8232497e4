"""The desk: rows of text that are done on a ring of their own, each with an answer."""

from passring.errors import IsOff, IsOn, NoMessage, NoRing, NoStation, NoToken
from passring.rings import Ring

NOT_UNDERSTOOD = "not understood"
MOST_FIGURES = 12
MOST_STEPS = 1000

# How many numbers each word has behind it.
NUMBERS = {"ring": 1, "put": 3, "steps": 1, "lose": 1, "make": 1, "off": 1, "on": 1, "tokens": 0}


def is_number_word(word):
    """Whether a word is a number in figures, with no nought ahead of others."""
    if not word.isascii() or not word.isdigit() or len(word) > MOST_FIGURES:
        return False
    return word == "0" or not word.startswith("0")


def is_understood(words):
    """Whether a known word stands first, with as many numbers behind it as it takes."""
    if NUMBERS.get(words[0]) != len(words) - 1:
        return False
    return all([is_number_word(word) for word in words[1:]])


def steps_answer(ring, many):
    """Do so many steps, and tell what was sent in them."""
    if many > MOST_STEPS:
        return NOT_UNDERSTOOD
    known = ring.many_rows()
    for _ in range(many):
        ring.step()
    answer = ["sent"]
    for row in ring.rows_behind(known):
        if row[0] == "sent":
            answer.append(f"{row[2]}:{row[4]}")
    return " ".join(answer)


def tokens_answer(ring):
    """Tell the tokens, the greatest first."""
    answer = [f"{number}.{maker}@{station}" for number, maker, station in ring.tokens()]
    if not answer:
        return "none"
    return " ".join(answer)


def ring_answer(ring, word, numbers):
    """Do on the ring what the word asks for, and tell the answer."""
    if word == "put":
        ring.put(numbers[0], numbers[1], numbers[2])
        return "put"
    if word == "steps":
        return steps_answer(ring, numbers[0])
    if word == "lose":
        ring.lose(numbers[0])
        return "lost"
    if word == "make":
        ring.make(numbers[0])
        return "made"
    if word == "off":
        ring.switch_off(numbers[0])
        return "off"
    if word == "on":
        ring.switch_on(numbers[0])
        return "on"
    if word == "tokens":
        return tokens_answer(ring)
    # What is left is `ring`, and there is one.
    return NOT_UNDERSTOOD


class Desk():
    """A desk, without a ring at first."""

    def __init__(self):
        self._ring = None

    def answer(self, row):
        """Do one row, and tell its answer."""
        words = row.split(" ")
        if not is_understood(words):
            return NOT_UNDERSTOOD
        numbers = [int(word) for word in words[1:]]
        try:
            return self._done(words[0], numbers)
        except NoRing:
            return "refused: NoRing"
        except NoStation:
            return "refused: NoStation"
        except NoMessage:
            return "refused: NoMessage"
        except IsOff:
            return "refused: IsOff"
        except IsOn:
            return "refused: IsOn"
        except NoToken:
            return "refused: NoToken"

    def _done(self, word, numbers):
        """Begin a ring where there is none yet, else do what is asked on it."""
        if self._ring is not None:
            return ring_answer(self._ring, word, numbers)
        if word != "ring":
            return NOT_UNDERSTOOD
        self._ring = Ring(numbers[0])
        return "ring"


def played(text):
    """The answers to the rows of a text, one for each row."""
    desk = Desk()
    answers = []
    for row in text.split("\n"):
        answers.append(desk.answer(row))
    return answers
