import unittest

from samples import NAMES, NOT_NAMES, NOT_WHOLE, STRANGE
from worlds_by_hand import all_carried, behind, run

from onename.errors import Down, HouseError, NoDeed
from onename.looks import ages_of, look_up
from onename.worlds import done, world_of

GREAT = 10 ** 29


def known():
    """House 1 of three got ab in round 2; house 0 knows of it; it is round 4."""
    world = run(3, 5, ("round",), ("claim", 1, "ab", "joe"), ("round",))
    world = all_carried(world, ("ask", 1, 0), ("word", 0, 1))
    return behind(all_carried(world, ("told", 1, 0)), ("round",), ("round",))


class LookUpTest(unittest.TestCase):
    def test_within_the_age(self):
        world = known()
        for house in (0, 1):
            for age in (2, 3, 4, GREAT):
                self.assertEqual(look_up(world, house, "ab", age), ("joe", 1, 2))

    def test_older_than_the_age(self):
        world = known()
        for house in (0, 1):
            for age in (0, 1):
                self.assertIsNone(look_up(world, house, "ab", age))

    def test_the_age_passes_with_the_rounds(self):
        world = known()
        for age in range(2, 8):
            self.assertEqual(look_up(world, 0, "ab", age), ("joe", 1, 2))
            self.assertIsNone(look_up(world, 0, "ab", age - 1))
            world = done(world, ("round",))
            self.assertIsNone(look_up(world, 0, "ab", age))

    def test_in_the_round_itself(self):
        world = run(1, 2, ("claim", 0, "ab", "joe"))
        self.assertEqual(look_up(world, 0, "ab", 0), ("joe", 0, 0))
        self.assertIsNone(look_up(done(world, ("round",)), 0, "ab", 0))
        self.assertEqual(look_up(done(world, ("round",)), 0, "ab", 1), ("joe", 0, 0))

    def test_no_notice(self):
        world = known()
        self.assertIsNone(look_up(world, 2, "ab", GREAT))
        for name in NAMES:
            if name != "ab":
                self.assertIsNone(look_up(world, 1, name, GREAT))
                self.assertIsNone(look_up(world_of(7, 9), 6, name, GREAT))

    def test_of_several_names(self):
        world = run(1, 3, ("claim", 0, "cd", "ann"), ("round",), ("claim", 0, "ab", "joe"), ("claim", 0, "ef", "sue"))
        self.assertEqual([look_up(world, 0, name, 9) for name in ("ab", "cd", "ef", "a", "b")],
                         [("joe", 0, 1), ("ann", 0, 0), ("sue", 0, 1), None, None])

    def test_behind_a_fall(self):
        world = behind(known(), ("fall", 0), ("rise", 0))
        self.assertIsNone(look_up(world, 0, "ab", GREAT))
        self.assertEqual(look_up(world, 1, "ab", GREAT), ("joe", 1, 2))

    def test_a_name_that_was_given_back_was_had_all_the_same(self):
        world = done(known(), ("back", 1, "ab"))
        self.assertEqual(look_up(world, 0, "ab", 2), ("joe", 1, 2))

    def test_a_renewal_that_got_words_is_newer(self):
        world = done(known(), ("renew", 1, "ab"))
        self.assertEqual(look_up(world, 1, "ab", 9), ("joe", 1, 2))
        world = all_carried(done(world, ("lose", 0)), ("ask", 1, 0), ("word", 0, 1))
        self.assertEqual(look_up(world, 1, "ab", 0), ("joe", 1, 4))
        self.assertEqual(look_up(world, 0, "ab", 9), ("joe", 1, 2))

    def test_a_tuple_is_told(self):
        self.assertIs(look_up(known(), 0, "ab", 9).__class__, tuple)


class RefusalTest(unittest.TestCase):
    def refused(self, error, world, house, name, age):
        kept = repr(world)
        with self.assertRaises(HouseError) as caught:
            look_up(world, house, name, age)
        self.assertIs(caught.exception.__class__, error, (house, name, age))
        self.assertEqual(repr(world), kept)

    def test_a_part_that_is_none(self):
        for world in (known(), done(known(), ("fall", 0)), behind(known(), ("fall", 0), ("fall", 1), ("fall", 2))):
            for house in NOT_WHOLE + (3, 4, -1, -3, GREAT, -GREAT, "ab", object):
                self.refused(NoDeed, world, house, "ab", 2)
            for name in NOT_NAMES:
                self.refused(NoDeed, world, 0, name, 2)
            for age in NOT_WHOLE + STRANGE + (-1, -2, -GREAT, "2"):
                self.refused(NoDeed, world, 0, "ab", age)
            self.refused(NoDeed, world, 3, "", -1)

    def test_down(self):
        world = done(known(), ("fall", 0))
        self.refused(Down, world, 0, "ab", 2)
        self.refused(Down, world, 0, "cd", 0)
        self.assertEqual(look_up(world, 1, "ab", 2), ("joe", 1, 2))
        self.assertIsNone(look_up(done(world, ("rise", 0)), 0, "ab", 2))

    def test_a_house_that_does_not_know_and_is_down(self):
        self.refused(Down, run(1, 2, ("fall", 0)), 0, "ab", 0)


class AgesTest(unittest.TestCase):
    def test_who_knows(self):
        self.assertEqual(ages_of(known(), "ab"), [2, 2, None])
        self.assertEqual(ages_of(done(known(), ("round",)), "ab"), [3, 3, None])
        self.assertEqual(ages_of(all_carried(known(), ("told", 1, 2)), "ab"), [2, 2, 2])

    def test_unlike_ages(self):
        world = done(known(), ("renew", 1, "ab"))
        world = all_carried(done(world, ("lose", 0)), ("ask", 1, 0), ("word", 0, 1))
        self.assertEqual(ages_of(world, "ab"), [2, 0, None])

    def test_nobody_knows(self):
        for many in range(1, 8):
            self.assertEqual(ages_of(world_of(many, 3), "ab"), [None] * many)
        self.assertEqual(ages_of(known(), "cd"), [None] * 3)

    def test_with_houses_that_are_down(self):
        world = done(known(), ("fall", 0))
        self.assertEqual(ages_of(world, "ab"), [None, 2, None])
        world = behind(world, ("fall", 2))
        self.assertEqual(ages_of(world, "ab"), [None, 2, None])
        self.assertEqual(ages_of(behind(world, ("fall", 1)), "ab"), [None, None, None])

    def test_the_list_is_the_askers_own(self):
        world = known()
        first = ages_of(world, "ab")
        self.assertIs(first.__class__, list)
        first[0] = 77
        first.append(5)
        self.assertEqual(ages_of(world, "ab"), [2, 2, None])
        self.assertIsNot(ages_of(world, "ab"), ages_of(world, "ab"))
        self.assertEqual(look_up(world, 0, "ab", 2), ("joe", 1, 2))


if __name__ == "__main__":
    unittest.main()
