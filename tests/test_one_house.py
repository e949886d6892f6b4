"""What a single house keeps of point 3, whatever letters come, in whatever order, late or twice."""

import itertools
import random
import unittest

from onename.houses import needed
from onename.letters import taken
from onename.logs import claim_in, is_log, word_in

HOUSE = 1
ROUND = "round"

ASKS = tuple(("ask", sender, HOUSE, "ab", number, "joe", until)
             for sender, number in ((0, 1), (0, 2), (2, 1)) for until in (1, 2, 3))
BACKS = tuple(("back", sender, HOUSE, "ab", number) for sender, number in ((0, 1), (0, 2), (2, 1)))
WORDS = tuple(("word", sender, HOUSE, "ab", number, until)
              for sender in (0, 2) for number in (1, 2) for until in (1, 2, 3))
NOES = tuple(("no", sender, HOUSE, "ab", number) for sender in (0, 2) for number in (1, 2))
TOLD = (("told", 0, HOUSE, "ab", 1, "joe", 0),)

OWN = (("ask", "ab", 1, "ann", 3),)
OWN_WITH_WORD = OWN + (("word", "ab", HOUSE, 1, 3), ("got", "ab", 1, HOUSE, 3))
GIVEN_BACK = OWN_WITH_WORD + (("back", "ab", 1), ("free", "ab", HOUSE, 1))
CLAIMED_ANEW = GIVEN_BACK + (("ask", "ab", 2, "ann", 3), ("word", "ab", HOUSE, 2, 3), ("got", "ab", 2, HOUSE, 3))
STARTS = ((), OWN, OWN_WITH_WORD, GIVEN_BACK, CLAIMED_ANEW)


class Run:
    """One run of the house, with what others may rely on: the words that it gave and did not take back."""

    def __init__(self, test, many, log):
        self.test = test
        self.many = many
        self.log = log
        self.now = 0
        self.given = {}
        word = word_in(log, "ab")
        if word is not None:
            self.given[word[:2]] = word[2]

    def step(self, letter):
        if letter == ROUND:
            self.now += 1
            return
        entries, letters, notice = taken(self.many, HOUSE, self.log, letter, self.now)
        self.log = self.log + entries
        self.test.assertTrue(is_log(self.many, self.log))
        self.look_at_entries(letter, entries)
        self.look_at_letters(letter, letters)
        self.look_at_notice(letter, letters, notice)
        self.look_at_a_second_taking(letter)

    def look_at_entries(self, letter, entries):
        self.test.assertLessEqual(len(entries), 1)
        for entry in entries:
            self.test.assertIn((letter[0], entry[0]), (("ask", "word"), ("word", "got"), ("no", "no"),
                                                       ("back", "free")))
            self.test.assertEqual(entry[1], letter[3])
            if entry[0] == "free":
                # Only who has the word can give it back.
                self.test.assertEqual(entry[2:], (letter[1], letter[4]))
                self.given.pop(entry[2:], None)

    def look_at_letters(self, letter, letters):
        for sent in letters:
            self.test.assertEqual(sent[1], HOUSE)
            self.test.assertNotEqual(sent[2], HOUSE)
            if sent[0] == "word":
                claim = (sent[2], sent[4])
                self.test.assertEqual(claim, (letter[1], letter[4]))
                for other, until in self.given.items():
                    self.test.assertTrue(other == claim or until <= self.now, (other, claim, self.log))
                self.given[claim] = max(sent[5], self.given.get(claim, 0))
                self.test.assertEqual(word_in(self.log, "ab"), claim + (sent[5],))
                self.test.assertGreater(sent[5], self.now)

    def look_at_notice(self, letter, letters, notice):
        if letter[0] == "told":
            self.test.assertEqual(notice, (letter[3], letter[1]) + letter[4:])
            return
        self.test.assertEqual(notice is not None, any(sent[0] == "told" for sent in letters))
        if notice is None:
            return
        claim = claim_in(self.log, "ab")
        running = [giver for giver, until in claim[3] if until > self.now]
        self.test.assertGreaterEqual(len(set(running)), needed(self.many))
        self.test.assertEqual(notice, ("ab", HOUSE, claim[0], claim[1], self.now))
        self.test.assertEqual(letter[0], "word")
        self.test.assertEqual(letters, tuple(("told", HOUSE, other, "ab", claim[0], claim[1], self.now)
                                             for other in range(self.many) if other != HOUSE))

    def look_at_a_second_taking(self, letter):
        entries, letters, notice = taken(self.many, HOUSE, self.log, letter, self.now)
        self.test.assertEqual(entries, ())
        if letter[0] != "told":
            self.test.assertIsNone(notice)
        if letter[0] in ("no", "back", "told"):
            self.test.assertEqual(letters, ())


class OneHouseTest(unittest.TestCase):
    def go(self, many, log, letters):
        run = Run(self, many, log)
        for letter in letters:
            run.step(letter)

    def test_all_short_runs(self):
        letters = ASKS + BACKS + WORDS + NOES + TOLD + (ROUND,)
        for log in STARTS:
            for row in itertools.product(letters, repeat=3):
                self.go(3, log, row)

    def test_all_runs_of_asks_and_backs(self):
        letters = ASKS[1:3] + ASKS[4:5] + ASKS[7:] + BACKS + (ROUND,)
        for row in itertools.product(letters, repeat=5):
            self.go(3, (), row)

    def test_long_runs(self):
        chance = random.Random(11)
        for times in range(600):
            many = chance.choice((2, 3, 4, 5, 7))
            letters = []
            for k in range(40):
                sender = chance.choice([house for house in range(many) if house != HOUSE])
                number, until = chance.randrange(1, 4), chance.randrange(1, 12)
                letters.append(chance.choice((
                    ("ask", sender, HOUSE, "ab", number, "joe", until), ("word", sender, HOUSE, "ab", number, until),
                    ("word", sender, HOUSE, "ab", 1, 11), ("no", sender, HOUSE, "ab", number),
                    ("back", sender, HOUSE, "ab", number), ("told", sender, HOUSE, "ab", number, "joe", until), ROUND)))
            self.go(many, chance.choice(STARTS), letters)

    def test_a_late_ask_does_not_shorten_a_word(self):
        log = (("word", "ab", 0, 1, 9),)
        self.assertEqual(taken(3, HOUSE, log, ("ask", 0, HOUSE, "ab", 1, "joe", 6), 4),
                         ((), (("word", HOUSE, 0, "ab", 1, 9),), None))

    def test_a_late_word_does_not_shorten_a_claim(self):
        log = OWN_WITH_WORD + (("got", "ab", 1, 0, 3),)
        self.assertEqual(taken(3, HOUSE, log, ("word", 0, HOUSE, "ab", 1, 2), 0), ((), (), None))

    def test_a_late_no_does_not_take_a_word_away(self):
        log = OWN_WITH_WORD + (("got", "ab", 1, 0, 3),)
        self.assertEqual(taken(3, HOUSE, log, ("no", 0, HOUSE, "ab", 1), 0), ((), (), None))

    def test_a_late_back_does_not_free_another_claim(self):
        log = (("word", "ab", 0, 1, 2), ("word", "ab", 0, 2, 9))
        self.assertEqual(taken(3, HOUSE, log, ("back", 0, HOUSE, "ab", 1), 3), ((), (), None))

    def test_a_late_word_for_an_elder_claim_helps_no_newer_one(self):
        told = taken(3, HOUSE, CLAIMED_ANEW, ("word", 0, HOUSE, "ab", 1, 9), 0)
        self.assertEqual(told, ((), (("back", HOUSE, 0, "ab", 1),), None))


if __name__ == "__main__":
    unittest.main()
