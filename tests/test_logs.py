import random
import unittest

from onename.logs import claim_in, is_log, next_number, word_in
from samples import NAMES, NOT_NAMES, NOT_WHOLE, STRANGE, replaced

GREAT = 10 ** 29

# One of each of the six kinds, for three houses.
ENTRIES = (
    ("ask", "ab", 1, "joe", 3), ("got", "ab", 1, 2, 3), ("no", "ab", 1, 0), ("back", "ab", 1),
    ("word", "ab", 2, 1, 3), ("free", "ab", 2, 1),
)
NUMBER_PLACES = {"ask": (2, 4), "got": (2, 4), "no": (2,), "back": (2,), "word": (3, 4), "free": (3,)}
HOUSE_PLACES = {"ask": (), "got": (3,), "no": (3,), "back": (), "word": (2,), "free": (2,)}
NAME_PLACES = {"ask": (1, 3), "got": (1,), "no": (1,), "back": (1,), "word": (1,), "free": (1,)}


def long_log():
    """A log of several hundred entries, of all kinds and three names."""
    log = []
    for number in range(1, 121):
        name = ("ab", "cd", "ef")[number % 3]
        log.append(("ask", name, number, "joe", number + 3))
        log.append(("got", name, number, number % 3, number + 3))
        log.append(("no", name, number, (number + 1) % 3))
        log.append(("word", name, number % 3, number, number + 3))
        if number % 2:
            log.append(("back", name, number))
            log.append(("free", name, number % 3, number))
    return tuple(log)


class IsLogTest(unittest.TestCase):
    def no_log(self, many, thing):
        self.assertIs(is_log(many, thing), False, (many, thing))

    def a_log(self, many, thing):
        self.assertIs(is_log(many, thing), True, (many, thing))

    def spoilt(self, entry, many=3):
        """The entry is none, wherever it stands."""
        good = ("back", "ab", 1)
        self.no_log(many, (entry,))
        self.no_log(many, (entry, good))
        self.no_log(many, (good, entry))
        self.no_log(many, (good, entry, good))

    def test_empty(self):
        for many in range(1, 8):
            self.a_log(many, ())

    def test_each_kind(self):
        for entry in ENTRIES:
            self.a_log(3, (entry,))
        self.a_log(3, ENTRIES)
        self.a_log(3, tuple(reversed(ENTRIES)) + ENTRIES)

    def test_no_order_is_asked_for(self):
        self.a_log(3, (("free", "ab", 0, 9), ("back", "cd", 7), ("got", "ef", 5, 1, 1)))

    def test_another_word(self):
        for entry in ENTRIES:
            for word in ("", "Ask", "asks", "told", "claim", "renew", "heal", "word ", "\nno", None, 0, 1, True,
                         b"ask", (), ("ask",), ["ask"], {}, {"ask"}):
                self.spoilt(replaced(entry, 0, word))

    def test_words_of_other_kinds(self):
        # House and number stand the other way round in these, so that with small numbers they still fit.
        fitting = (("got", "word"), ("word", "got"), ("free", "no"))
        for entry in ENTRIES:
            for word in [other[0] for other in ENTRIES if other[0] != entry[0]]:
                changed = replaced(entry, 0, word)
                self.assertIs(is_log(3, (changed,)), (entry[0], word) in fitting, changed)
        for entry in (("no", "ab", 0, 1), ("free", "ab", 1, 0), ("got", "ab", 0, 1, 3), ("word", "ab", 1, 0, 3)):
            self.spoilt(entry)

    def test_a_part_more_or_fewer(self):
        for entry in ENTRIES:
            self.spoilt(entry[:-1])
            self.spoilt(entry[1:])
            for more in (0, 1, "ab", None, ()):
                self.spoilt(entry + (more,))
                self.spoilt((more,) + entry)

    def test_numbers_and_untils(self):
        for entry in ENTRIES:
            for at in NUMBER_PLACES[entry[0]]:
                for number in (1, 2, 9, 10, GREAT, GREAT * 10 - 1):
                    self.a_log(3, (replaced(entry, at, number),))
                for number in (0, -1, -GREAT) + NOT_WHOLE + STRANGE:
                    self.spoilt(replaced(entry, at, number))

    def test_houses(self):
        for entry in ENTRIES:
            for at in HOUSE_PLACES[entry[0]]:
                for many in range(1, 8):
                    for house in range(many):
                        self.a_log(many, (replaced(entry, at, house),))
                    for house in (-1, many, many + 1, GREAT, -GREAT) + NOT_WHOLE + STRANGE:
                        self.spoilt(replaced(entry, at, house), many)

    def test_names_and_persons(self):
        for entry in ENTRIES:
            for at in NAME_PLACES[entry[0]]:
                for name in NAMES:
                    self.a_log(3, (replaced(entry, at, name),))
                for name in NOT_NAMES:
                    self.spoilt(replaced(entry, at, name))

    def test_a_list_in_the_place_of_the_log(self):
        self.no_log(3, [])
        self.no_log(3, list(ENTRIES))
        for entry in ENTRIES:
            self.no_log(3, [entry])

    def test_a_list_in_the_place_of_an_entry(self):
        for entry in ENTRIES:
            self.spoilt(list(entry))
            self.spoilt((entry,))
            self.spoilt([entry])

    def test_an_entry_is_no_log(self):
        for entry in ENTRIES:
            self.no_log(3, entry)

    def test_strange_things(self):
        for thing in STRANGE + NOT_NAMES + NOT_WHOLE + NAMES + (0, 1, GREAT, "ask", "-"):
            if not (isinstance(thing, tuple) and thing == ()):
                self.no_log(3, thing)
            self.spoilt(thing)

    def test_hundreds_of_entries(self):
        log = long_log()
        self.assertGreater(len(log), 500)
        self.a_log(3, log)
        self.a_log(3, ENTRIES * 166)
        self.no_log(3, log + (("back", "ab", 0),))
        self.no_log(3, (("back", "ab", 0),) + log)
        self.no_log(3, log[:300] + (("got", "ab", 1, 3, 1),) + log[300:])
        self.no_log(2, log)

    def test_what_is_handed_in_stays_as_it_was(self):
        thing = [["ask", "ab", 1, "joe", 3]]
        for times in range(2):
            self.no_log(3, thing)
            self.no_log(3, tuple(thing))
        self.assertEqual(thing, [["ask", "ab", 1, "joe", 3]])


class WordTest(unittest.TestCase):
    def test_no_such_entry(self):
        self.assertIsNone(word_in((), "ab"))
        self.assertIsNone(word_in((("ask", "ab", 1, "joe", 3), ("got", "ab", 1, 0, 3), ("no", "ab", 1, 1),
                                   ("back", "ab", 1)), "ab"))
        self.assertIsNone(word_in((("word", "cd", 0, 1, 3),), "ab"))
        self.assertIsNone(word_in((("free", "ab", 0, 1),), "ab"))

    def test_one_word(self):
        self.assertEqual(word_in((("word", "ab", 2, 5, 7),), "ab"), (2, 5, 7))
        self.assertEqual(word_in((("word", "ab", 0, 1, GREAT),), "ab"), (0, 1, GREAT))
        self.assertIs(word_in((("word", "ab", 2, 5, 7),), "ab").__class__, tuple)

    def test_the_last_word_counts(self):
        log = (("word", "ab", 2, 5, 7), ("word", "ab", 1, 1, 4))
        self.assertEqual(word_in(log, "ab"), (1, 1, 4))
        log = (("word", "ab", 2, 5, 7), ("word", "ab", 2, 5, 6))
        self.assertEqual(word_in(log, "ab"), (2, 5, 6))

    def test_free_behind(self):
        self.assertIsNone(word_in((("word", "ab", 2, 5, 7), ("free", "ab", 2, 5)), "ab"))
        log = (("word", "ab", 2, 5, 7), ("word", "cd", 0, 1, 2), ("ask", "ab", 1, "joe", 3), ("free", "ab", 2, 5),
               ("back", "ab", 1))
        self.assertIsNone(word_in(log, "ab"))
        self.assertEqual(word_in(log, "cd"), (0, 1, 2))

    def test_free_ahead(self):
        log = (("free", "ab", 2, 5), ("word", "ab", 2, 5, 7))
        self.assertEqual(word_in(log, "ab"), (2, 5, 7))

    def test_free_and_given_anew(self):
        log = (("word", "ab", 2, 5, 7), ("free", "ab", 2, 5), ("word", "ab", 2, 5, 8))
        self.assertEqual(word_in(log, "ab"), (2, 5, 8))
        self.assertIsNone(word_in(log + (("free", "ab", 2, 5),), "ab"))

    def test_free_of_another_claim(self):
        word = ("word", "ab", 2, 5, 7)
        for free in (("free", "cd", 2, 5), ("free", "ab", 1, 5), ("free", "ab", 2, 4), ("free", "ab", 5, 2)):
            self.assertEqual(word_in((word, free), "ab"), (2, 5, 7), free)

    def test_an_elder_word_does_not_come_back(self):
        log = (("word", "ab", 1, 1, 9), ("word", "ab", 2, 5, 7), ("free", "ab", 2, 5))
        self.assertIsNone(word_in(log, "ab"))
        self.assertIsNone(word_in(log + (("free", "ab", 1, 1),), "ab"))

    def test_free_of_an_elder_word(self):
        log = (("word", "ab", 1, 1, 9), ("word", "ab", 2, 5, 7), ("free", "ab", 1, 1))
        self.assertEqual(word_in(log, "ab"), (2, 5, 7))

    def test_entries_of_other_names_between(self):
        log = (("word", "ab", 1, 1, 9), ("word", "cd", 1, 2, 9), ("free", "cd", 1, 1), ("word", "ef", 0, 1, 1),
               ("free", "cd", 1, 2))
        self.assertEqual(word_in(log, "ab"), (1, 1, 9))
        self.assertIsNone(word_in(log, "cd"))
        self.assertEqual(word_in(log, "ef"), (0, 1, 1))

    def test_hundreds_of_entries(self):
        log = long_log()
        self.assertEqual(word_in(log, "ab"), (0, 120, 123))
        self.assertIsNone(word_in(log + (("free", "ab", 0, 120),), "ab"))
        self.assertEqual(word_in(log, "cd"), (1, 118, 121))
        self.assertIsNone(word_in(log, "ef"))


class ClaimTest(unittest.TestCase):
    def test_no_such_entry(self):
        self.assertIsNone(claim_in((), "ab"))
        self.assertIsNone(claim_in((("ask", "cd", 1, "joe", 3),), "ab"))
        self.assertIsNone(claim_in((("got", "ab", 1, 0, 3), ("no", "ab", 1, 1), ("word", "ab", 0, 1, 3)), "ab"))

    def test_an_ask_alone(self):
        claim = claim_in((("ask", "ab", 4, "joe", 6),), "ab")
        self.assertEqual(claim, (4, "joe", 6, (), ()))
        self.assertEqual([part.__class__ for part in claim], [int, str, int, tuple, tuple])

    def test_asks_of_one_number(self):
        log = (("ask", "ab", 4, "joe", 6), ("ask", "ab", 4, "ann", 9), ("ask", "ab", 4, "sue", 7))
        self.assertEqual(claim_in(log, "ab"), (4, "sue", 9, (), ()))
        self.assertEqual(claim_in(log[:2], "ab"), (4, "ann", 9, (), ()))
        self.assertEqual(claim_in(log[1:], "ab"), (4, "sue", 9, (), ()))
        self.assertEqual(claim_in(log[:1] * 2, "ab"), (4, "joe", 6, (), ()))

    def test_asks_of_several_numbers(self):
        log = (("ask", "ab", 1, "joe", 90), ("ask", "ab", 3, "ann", 9), ("ask", "ab", 2, "sue", 70))
        self.assertEqual(claim_in(log, "ab"), (3, "ann", 9, (), ()))
        self.assertEqual(claim_in(log + (("ask", "ab", 3, "bob", 4),), "ab"), (3, "bob", 9, (), ()))
        self.assertEqual(claim_in(log + (("ask", "ab", 4, "bob", 4),), "ab"), (4, "bob", 4, (), ()))
        # By their worth, not as texts.
        self.assertEqual(claim_in((("ask", "ab", 10, "joe", 6), ("ask", "ab", 9, "ann", 6)), "ab")[0], 10)

    def test_back_of_the_greatest_number(self):
        ask = ("ask", "ab", 4, "joe", 6)
        back = ("back", "ab", 4)
        self.assertIsNone(claim_in((ask, back), "ab"))
        self.assertIsNone(claim_in((back, ask), "ab"))
        self.assertIsNone(claim_in((ask, back, ask), "ab"))
        self.assertIsNone(claim_in((("ask", "ab", 3, "joe", 60), ask, back), "ab"))
        self.assertIsNone(claim_in((back, ("got", "ab", 4, 0, 6), ask), "ab"))

    def test_back_of_another_claim(self):
        ask = ("ask", "ab", 4, "joe", 6)
        for back in (("back", "ab", 3), ("back", "ab", 5), ("back", "cd", 4)):
            self.assertEqual(claim_in((ask, back), "ab"), (4, "joe", 6, (), ()))
            self.assertEqual(claim_in((back, ask), "ab"), (4, "joe", 6, (), ()))
        log = (("ask", "ab", 3, "ann", 6), ("back", "ab", 3), ask)
        self.assertEqual(claim_in(log, "ab"), (4, "joe", 6, (), ()))
        self.assertIsNone(claim_in(log[:2], "ab"))

    def test_words_rising(self):
        log = (("ask", "ab", 1, "joe", 6), ("got", "ab", 1, 6, 5), ("got", "ab", 1, 0, 6), ("got", "ab", 1, 3, 4))
        self.assertEqual(claim_in(log, "ab"), (1, "joe", 6, ((0, 6), (3, 4), (6, 5)), ()))

    def test_several_words_of_one_house(self):
        log = (("ask", "ab", 1, "joe", 6), ("got", "ab", 1, 2, 5), ("got", "ab", 1, 2, 9), ("got", "ab", 1, 2, 7))
        self.assertEqual(claim_in(log, "ab")[3], ((2, 9),))
        self.assertEqual(claim_in(log[:2] + log[3:], "ab")[3], ((2, 7),))
        self.assertEqual(claim_in(log[:1] + log[2:], "ab")[3], ((2, 9),))
        self.assertEqual(claim_in(log + (("got", "ab", 1, 1, GREAT), ("got", "ab", 1, 1, 1)), "ab")[3],
                         ((1, GREAT), (2, 9)))

    def test_words_and_noes_of_other_claims(self):
        log = (("ask", "ab", 2, "joe", 6), ("got", "ab", 1, 2, 5), ("got", "cd", 2, 2, 5), ("got", "ab", 3, 2, 5),
               ("no", "ab", 1, 1), ("no", "cd", 2, 1), ("no", "ab", 3, 1), ("word", "ab", 2, 2, 9))
        self.assertEqual(claim_in(log, "ab"), (2, "joe", 6, (), ()))

    def test_words_ahead_of_the_ask(self):
        log = (("got", "ab", 2, 1, 5), ("no", "ab", 2, 0), ("ask", "ab", 2, "joe", 6))
        self.assertEqual(claim_in(log, "ab"), (2, "joe", 6, ((1, 5),), (0,)))

    def test_noes_rising_each_once(self):
        log = (("ask", "ab", 1, "joe", 6), ("no", "ab", 1, 5), ("no", "ab", 1, 0), ("no", "ab", 1, 5),
               ("no", "ab", 1, 3))
        self.assertEqual(claim_in(log, "ab"), (1, "joe", 6, (), (0, 3, 5)))

    def test_a_no_and_a_word_of_one_house(self):
        ask, got, no = ("ask", "ab", 1, "joe", 6), ("got", "ab", 1, 2, 6), ("no", "ab", 1, 2)
        for log in ((ask, got, no), (ask, no, got), (no, got, ask), (ask, no, got, no)):
            self.assertEqual(claim_in(log, "ab"), (1, "joe", 6, ((2, 6),), ()))
        log = (ask, no, ("got", "ab", 1, 1, 6))
        self.assertEqual(claim_in(log, "ab"), (1, "joe", 6, ((1, 6),), (2,)))

    def test_a_word_for_another_number_does_not_take_a_no_away(self):
        log = (("ask", "ab", 2, "joe", 6), ("no", "ab", 2, 1), ("got", "ab", 1, 1, 6), ("got", "cd", 2, 1, 6))
        self.assertEqual(claim_in(log, "ab"), (2, "joe", 6, (), (1,)))

    def test_entries_of_other_names_between(self):
        log = (("ask", "ab", 1, "joe", 6), ("ask", "cd", 2, "ann", 7), ("got", "ab", 1, 0, 6), ("got", "cd", 2, 1, 7),
               ("back", "ef", 1), ("no", "ab", 1, 2), ("no", "cd", 2, 0), ("back", "gh", 2))
        self.assertEqual(claim_in(log, "ab"), (1, "joe", 6, ((0, 6),), (2,)))
        self.assertEqual(claim_in(log, "cd"), (2, "ann", 7, ((1, 7),), (0,)))
        self.assertIsNone(claim_in(log, "ef"))

    def test_hundreds_of_entries(self):
        log = long_log()
        self.assertEqual(claim_in(log, "ab"), (120, "joe", 123, ((0, 123),), (1,)))
        self.assertEqual(claim_in(log, "cd"), (118, "joe", 121, ((1, 121),), (2,)))
        self.assertIsNone(claim_in(log, "ef"))
        self.assertIsNone(claim_in(log + (("back", "ab", 120),), "ab"))


class NextNumberTest(unittest.TestCase):
    def test_no_asks(self):
        self.assertEqual(next_number(()), 1)
        self.assertEqual(next_number((("got", "ab", 7, 0, 9), ("no", "ab", 8, 1), ("back", "ab", 9),
                                      ("word", "ab", 2, 10, 12), ("free", "ab", 2, 10))), 1)

    def test_over_all_names(self):
        log = (("ask", "ab", 1, "joe", 30), ("ask", "cd", 5, "ann", 4), ("ask", "ab", 3, "joe", 50))
        self.assertEqual(next_number(log), 6)
        self.assertEqual(next_number(log[:1]), 2)
        self.assertEqual(next_number(log[::2]), 4)

    def test_given_back_ones_count(self):
        self.assertEqual(next_number((("ask", "ab", 4, "joe", 6), ("back", "ab", 4))), 5)

    def test_great_ones(self):
        self.assertEqual(next_number((("ask", "ab", GREAT, "joe", 6), ("ask", "ab", 9, "joe", 6))), GREAT + 1)

    def test_hundreds_of_entries(self):
        self.assertEqual(next_number(long_log()), 121)


def word_by_the_document(log, name):
    at = [k for k, entry in enumerate(log) if entry[:2] == ("word", name)]
    if not at or ("free", name) + log[at[-1]][2:4] in log[at[-1]:]:
        return None
    return log[at[-1]][2:]


def claim_by_the_document(log, name):
    own = [entry for entry in log if entry[1] == name]
    asks = [entry for entry in own if entry[0] == "ask"]
    asks = [entry for entry in asks if all(entry[2] >= other[2] for other in asks)]
    if not asks or any(entry[0] == "back" and entry[2] == asks[0][2] for entry in own):
        return None
    got = [entry[3:] for entry in own if entry[0] == "got" and entry[2] == asks[0][2]]
    words = [(house, max(pair[1] for pair in got if pair[0] == house))
             for house in range(7) if any(pair[0] == house for pair in got)]
    noes = [house for house in range(7)
            if ("no", name, asks[0][2], house) in own and all(house != pair[0] for pair in got)]
    return (asks[0][2], asks[-1][3], max(entry[4] for entry in asks), tuple(words), tuple(noes))


def entry_by(chance):
    name, house = chance.choice(("ab", "cd")), chance.randrange(3)
    number, until = chance.randrange(1, 4), chance.randrange(1, 5)
    return chance.choice((("ask", name, number, chance.choice(("joe", "ann")), until),
                          ("got", name, number, house, until), ("no", name, number, house), ("back", name, number),
                          ("word", name, house, number, until), ("free", name, house, number)))


class ManyLogsTest(unittest.TestCase):
    def test_against_the_words_of_the_document(self):
        chance = random.Random(7)
        for times in range(4000):
            log = tuple(entry_by(chance) for k in range(chance.randrange(12)))
            self.assertTrue(is_log(3, log))
            for name in ("ab", "cd"):
                self.assertEqual(word_in(log, name), word_by_the_document(log, name), log)
                self.assertEqual(claim_in(log, name), claim_by_the_document(log, name), log)
                self.assertEqual(claim_in(log, name), claim_in(log, name))
            numbers = [0] + [entry[2] for entry in log if entry[0] == "ask"]
            self.assertEqual(next_number(log), max(numbers) + 1, log)


if __name__ == "__main__":
    unittest.main()
