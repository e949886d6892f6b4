import itertools
import unittest

from onename.houses import is_deed, needed, reach_of
from samples import NAMES, NOT_NAMES, NOT_WHOLE, STRANGE, replaced

GREAT = 10 ** 29

# One of each of the eleven words, for three houses.
DEEDS = (
    ("claim", 0, "ab", "joe"), ("renew", 1, "ab"), ("back", 2, "ab"), ("carry", 0), ("copy", 1), ("lose", 2),
    ("fall", 0), ("rise", 2), ("part", (0, 2)), ("heal",), ("round",),
)
HOUSE_DEEDS = (("claim", 0, "ab", "joe"), ("renew", 0, "ab"), ("back", 0, "ab"), ("fall", 0), ("rise", 0))
NAME_PLACES = ((("claim", 0, "ab", "joe"), 2), (("claim", 0, "ab", "joe"), 3), (("renew", 0, "ab"), 2),
               (("back", 0, "ab"), 2))


class NeededTest(unittest.TestCase):
    def test_of_every_many(self):
        self.assertEqual([needed(many) for many in range(1, 8)], [1, 2, 2, 3, 3, 4, 4])

    def test_two_sets_of_the_needed_have_a_house_in_common(self):
        for many in range(1, 8):
            self.assertGreater(2 * needed(many), many)
            self.assertLessEqual(2 * (needed(many) - 1), many)


class ReachTest(unittest.TestCase):
    def test_shorter_than_needed(self):
        self.assertEqual(reach_of([5], 2), 0)
        self.assertEqual(reach_of([5], 3), 0)
        self.assertEqual(reach_of([9, 8], 5), 0)
        self.assertEqual(reach_of([9, 8, 7], 7), 0)

    def test_empty(self):
        for many in range(1, 8):
            self.assertEqual(reach_of([], many), 0)

    def test_just_as_long_as_needed(self):
        self.assertEqual(reach_of([5], 1), 5)
        self.assertEqual(reach_of([5, 3], 2), 3)
        self.assertEqual(reach_of([3, 5], 3), 3)
        self.assertEqual(reach_of([4, 9, 6], 4), 4)
        self.assertEqual(reach_of([7, 2, 9, 4], 7), 2)

    def test_longer_than_needed(self):
        self.assertEqual(reach_of([1, 5], 1), 5)
        self.assertEqual(reach_of([1, 9, 5], 3), 5)
        self.assertEqual(reach_of([1, 9, 5, 7, 3], 5), 5)
        self.assertEqual(reach_of([1, 2, 3, 4, 5, 6, 7], 7), 4)

    def test_nine_numbers(self):
        numbers = [3, 9, 1, 8, 2, 7, 4, 6, 5]
        self.assertEqual([reach_of(numbers, many) for many in range(1, 8)], [9, 8, 8, 7, 7, 6, 6])

    def test_like_numbers(self):
        self.assertEqual(reach_of([4, 4], 3), 4)
        self.assertEqual(reach_of([4, 4, 2], 3), 4)
        self.assertEqual(reach_of([4, 2, 2], 3), 2)
        self.assertEqual(reach_of([0, 0, 0], 3), 0)
        self.assertEqual(reach_of([6] * 9, 7), 6)

    def test_noughts_count_as_words(self):
        self.assertEqual(reach_of([0], 1), 0)
        self.assertEqual(reach_of([0, 7], 3), 0)

    def test_great_ones(self):
        self.assertEqual(reach_of([GREAT, GREAT + 1, 2], 3), GREAT)
        self.assertEqual(reach_of([GREAT * 10 - 1], 1), GREAT * 10 - 1)

    def test_by_counting(self):
        for many in range(1, 8):
            for length in range(0, 5):
                for numbers in itertools.product(range(4), repeat=length):
                    reached = [at for at in range(4) if sum(n >= at for n in numbers) >= needed(many)]
                    self.assertEqual(reach_of(list(numbers), many), max(reached, default=0), (numbers, many))

    def test_the_list_stays_as_it_was(self):
        numbers = [3, 1, 2, 9, 9, 0]
        first = reach_of(numbers, 3)
        self.assertEqual(numbers, [3, 1, 2, 9, 9, 0])
        self.assertEqual(reach_of(numbers, 3), first)


class DeedTest(unittest.TestCase):
    def no_deed(self, many, thing):
        self.assertIs(is_deed(many, thing), False, (many, thing))

    def a_deed(self, many, thing):
        self.assertIs(is_deed(many, thing), True, (many, thing))

    def test_each_word(self):
        for deed in DEEDS:
            self.a_deed(3, deed)

    def test_another_word(self):
        for deed in DEEDS:
            for word in ("", "Claim", "claims", "clai", "word", "ask", "told", "heal ", " heal", "HEAL", "round\n",
                         "number", "house", "part,", None, 0, True, b"heal", (), ("heal",), ["heal"], {}, {"heal"}):
                self.no_deed(3, replaced(deed, 0, word))

    def test_words_of_other_deeds(self):
        alike = (("renew", "back"), ("carry", "copy", "lose"), ("fall", "rise"), ("heal", "round"))
        for deed in DEEDS:
            for word in [other[0] for other in DEEDS]:
                fits = word == deed[0] or any(word in words and deed[0] in words for words in alike)
                # The house of a fall may be a place in the yard, and a place below many a house.
                fits = fits or len(deed) == 2 and deed[0] != "part" and word in (
                    "carry", "copy", "lose", "fall", "rise")
                self.assertIs(is_deed(3, replaced(deed, 0, word)), fits, (deed, word))

    def test_a_part_more_or_fewer(self):
        for deed in DEEDS:
            self.no_deed(3, deed[:-1])
            self.no_deed(3, deed[1:])
            for more in (0, 1, "ab", None, (), (0,)):
                self.no_deed(3, deed + (more,))
                self.no_deed(3, (more,) + deed)

    def test_a_list_in_the_place_of_the_tuple(self):
        for deed in DEEDS:
            self.no_deed(3, list(deed))
            self.no_deed(3, (deed,))
            self.no_deed(3, [deed])

    def test_houses(self):
        for many in range(1, 8):
            for deed in HOUSE_DEEDS:
                for house in range(many):
                    self.a_deed(many, replaced(deed, 1, house))
                for house in (-1, -many, many, many + 1, GREAT, -GREAT):
                    self.no_deed(many, replaced(deed, 1, house))
                for house in STRANGE + NOT_WHOLE:
                    self.no_deed(many, replaced(deed, 1, house))

    def test_names_and_persons(self):
        for deed, at in NAME_PLACES:
            for name in NAMES:
                self.a_deed(3, replaced(deed, at, name))
            for name in NOT_NAMES:
                self.no_deed(3, replaced(deed, at, name))

    def test_every_sign_in_a_name(self):
        for sign in [chr(at) for at in range(32, 127)] + ["\n"]:
            fits = sign in "abcdefghijklmnopqrstuvwxyz"
            for name in (sign, "a" + sign, sign + "a", "abc" + sign + "efgh"):
                self.assertIs(is_deed(3, ("renew", 0, name)), fits, name)

    def test_places_in_the_yard(self):
        for word in ("carry", "copy", "lose"):
            for many in (1, 3, 7):
                for at in (0, 1, 7, 999, 1000, GREAT, GREAT * 10 - 1):
                    self.a_deed(many, (word, at))
                for at in (-1, -GREAT) + NOT_WHOLE + STRANGE:
                    self.no_deed(many, (word, at))

    def test_every_part(self):
        for many in range(1, 8):
            for length in range(0, many + 1):
                for houses in itertools.combinations(range(many), length):
                    self.assertIs(is_deed(many, ("part", houses)), 0 < length < many, (many, houses))

    def test_spoilt_parts(self):
        for houses in ((), (0, 1, 2), (0, 0), (1, 1), (0, 1, 1), (0, 1, 2, 2), (1, 0), (2, 1), (2, 0), [0], [0, 1],
                       (3,), (-1,), (0, 3), (-1, 0), (True,), (False,), (0, True), (False, 1), ("0",), (0, "1"),
                       (None,), ((0,),), ([0],), ({},), (0, [1]), 0, 1, True, None, "0", "0,1", "ab", b"\x00", {},
                       {0: 1}, {0}, range(1), object()):
            self.no_deed(3, ("part", houses))
        self.no_deed(1, ("part", (0,)))
        self.no_deed(1, ("part", ()))
        self.no_deed(7, ("part", tuple(range(7))))
        self.no_deed(7, ("part", (0,) * 1000))
        self.no_deed(7, ("part", (0, 2, 1)))
        self.a_deed(2, ("part", (0,)))
        self.a_deed(2, ("part", (1,)))

    def test_strange_things(self):
        for thing in STRANGE + NOT_NAMES + NOT_WHOLE + NAMES + (0, 1, 7, GREAT, "heal", "claim 0 ab joe", "round"):
            for many in (1, 3, 7):
                self.no_deed(many, thing)
                self.no_deed(many, (thing,) if thing not in ("heal", "round") else ((thing,),))
        self.no_deed(3, ("heal",) * 1000)
        self.no_deed(3, tuple(range(1000)))

    def test_what_is_handed_in_stays_as_it_was(self):
        thing = ("part", [2, 0])
        for times in range(2):
            self.no_deed(3, thing)
        self.assertEqual(thing, ("part", [2, 0]))


if __name__ == "__main__":
    unittest.main()
