"""Point 15: what is refused, and which refusal is told where several are due."""

import unittest

from samples import NOT_NAMES, NOT_WHOLE, STRANGE, replaced
from worlds_by_hand import behind, run

from onename.errors import Busy, Down, HouseError, NoClaim, NoDeed, NoLetter, Up
from onename.worlds import done, world_of

GREAT = 10 ** 29
DEEDS = (("claim", 0, "ab", "joe"), ("renew", 0, "ab"), ("back", 0, "ab"), ("carry", 0), ("copy", 0), ("lose", 0),
         ("fall", 0), ("rise", 0), ("part", (0,)), ("heal",), ("round",))


class RefusalTest(unittest.TestCase):
    def refused(self, error, world, deed):
        kept = repr(world)
        with self.assertRaises(HouseError) as caught:
            done(world, deed)
        self.assertIs(caught.exception.__class__, error, deed)
        self.assertEqual(repr(world), kept)

    def claimed(self, *deeds):
        """House 0 of three has claimed ab; its asks to 1 and 2 are in the yard."""
        return run(3, 3, ("claim", 0, "ab", "joe"), *deeds)


class NoDeedTest(RefusalTest):
    def test_of_anything(self):
        for world in (world_of(1, 2), world_of(3, 3), self.claimed()):
            for thing in STRANGE + NOT_WHOLE + NOT_NAMES + (0, 1, GREAT, "claim", "heal", "round", ["round"]):
                self.refused(NoDeed, world, thing)

    def test_another_kind_than_a_tuple(self):
        for deed in DEEDS:
            self.refused(NoDeed, self.claimed(), list(deed))
            self.refused(NoDeed, self.claimed(), (deed,))

    def test_a_wrong_first_word(self):
        for deed in DEEDS:
            for word in STRANGE + ("Claim", "claims", "ask", "word", "no", "told", "got", "free", "quiet", "houses"):
                self.refused(NoDeed, self.claimed(), replaced(deed, 0, word))

    def test_a_wrong_length(self):
        for deed in DEEDS:
            self.refused(NoDeed, self.claimed(), deed + (0,))
            self.refused(NoDeed, self.claimed(), deed + ("ab",))
            self.refused(NoDeed, self.claimed(), deed + ((),))
            self.refused(NoDeed, self.claimed(), deed[:-1])

    def test_a_house_that_is_none(self):
        for many in (1, 3, 7):
            world = world_of(many, 3)
            for deed in DEEDS[:3] + DEEDS[6:8]:
                for house in NOT_WHOLE + (many, many + 1, -1, -many, GREAT, -GREAT):
                    self.refused(NoDeed, world, replaced(deed, 1, house))

    def test_a_name_or_a_person_that_is_none(self):
        for name in NOT_NAMES:
            for deed in DEEDS[:3]:
                self.refused(NoDeed, self.claimed(), replaced(deed, 2, name))
            self.refused(NoDeed, self.claimed(), ("claim", 1, "ab", name))

    def test_a_place_that_is_none(self):
        for place in NOT_WHOLE + (-1, -2, -3, -GREAT):
            for deed in DEEDS[3:6]:
                self.refused(NoDeed, self.claimed(), replaced(deed, 1, place))

    def test_a_side_that_is_none(self):
        for side in STRANGE + (0, "0", [0], (3,), (-1,), (1, 0), (0, 0), (0, 1, 2), (0, 1, 1), (True,), (0, True),
                               ("0",), (None,), ((0,),), (0, 1, 2, 3)):
            self.refused(NoDeed, self.claimed(), ("part", side))
        self.refused(NoDeed, world_of(1, 3), ("part", (0,)))
        self.refused(NoDeed, world_of(1, 3), ("part", ()))


class OneCauseTest(RefusalTest):
    def test_no_letter(self):
        for kind in ("carry", "copy", "lose"):
            for place in (0, 1, 2, GREAT):
                self.refused(NoLetter, world_of(3, 3), (kind, place))
            for place in (2, 3, GREAT):
                self.refused(NoLetter, self.claimed(), (kind, place))
            done(self.claimed(), (kind, 1))

    def test_down(self):
        world = self.claimed(("fall", 0), ("fall", 2))
        self.refused(Down, world, ("claim", 2, "ab", "joe"))
        self.refused(Down, world, ("claim", 0, "cd", "joe"))
        self.refused(Down, world, ("renew", 0, "ab"))
        self.refused(Down, world, ("back", 0, "ab"))
        self.refused(Down, world, ("fall", 0))
        self.refused(Down, world, ("fall", 2))
        self.refused(Down, world, ("carry", 1))
        done(world, ("carry", 0))
        done(world, ("claim", 1, "ab", "joe"))

    def test_up(self):
        for house in (0, 1, 2):
            self.refused(Up, world_of(3, 3), ("rise", house))
        self.refused(Up, run(3, 3, ("fall", 1)), ("rise", 2))
        self.refused(Up, run(3, 3, ("fall", 1), ("rise", 1)), ("rise", 1))

    def test_no_letter_for_the_parting(self):
        for side, parted in (((0,), (0, 1)), ((1,), (0,)), ((2,), (1,)), ((0, 1), (1,)), ((0, 2), (0,)),
                             ((1, 2), (0, 1))):
            world = self.claimed(("part", side))
            for place in (0, 1):
                if place in parted:
                    self.refused(NoLetter, world, ("carry", place))
                else:
                    done(world, ("carry", place))
                done(world, ("copy", place))
                done(world, ("lose", place))
                done(done(world, ("heal",)), ("carry", place))

    def test_the_newer_parting_counts(self):
        world = self.claimed(("part", (1,)), ("part", (2,)))
        done(world, ("carry", 0))
        self.refused(NoLetter, world, ("carry", 1))

    def test_busy(self):
        self.refused(Busy, self.claimed(), ("claim", 0, "ab", "joe"))
        self.refused(Busy, self.claimed(), ("claim", 0, "ab", "ann"))
        self.refused(Busy, self.claimed(("round",), ("round",)), ("claim", 0, "ab", "joe"))
        self.refused(Busy, self.claimed(("round",), ("renew", 0, "ab"), ("round",), ("round",)),
                     ("claim", 0, "ab", "joe"))
        done(self.claimed(("round",), ("round",), ("round",)), ("claim", 0, "ab", "joe"))
        done(self.claimed(), ("claim", 0, "cd", "joe"))
        done(self.claimed(), ("claim", 1, "ab", "joe"))
        done(self.claimed(("back", 0, "ab")), ("claim", 0, "ab", "joe"))

    def test_busy_without_a_word(self):
        world = run(3, 3, ("claim", 1, "ab", "joe"), ("carry", 0), ("claim", 0, "ab", "joe"))
        self.refused(Busy, world, ("claim", 0, "ab", "joe"))

    def test_no_claim(self):
        for kind in ("renew", "back"):
            self.refused(NoClaim, world_of(3, 3), (kind, 0, "ab"))
            self.refused(NoClaim, self.claimed(), (kind, 0, "cd"))
            self.refused(NoClaim, self.claimed(), (kind, 1, "ab"))
            self.refused(NoClaim, self.claimed(("carry", 0)), (kind, 1, "ab"))
            self.refused(NoClaim, self.claimed(("back", 0, "ab")), (kind, 0, "ab"))
            self.refused(NoClaim, self.claimed(("round",), ("round",), ("round",)), (kind, 0, "ab"))
            self.refused(NoClaim, self.claimed(*[("round",)] * 4), (kind, 0, "ab"))
            done(self.claimed(("round",), ("round",)), (kind, 0, "ab"))


class TwoCausesTest(RefusalTest):
    """Where two refusals are due the one told first goes first."""

    def test_no_deed_ahead_of_all_others(self):
        down = self.claimed(("fall", 0), ("fall", 1))
        self.refused(NoDeed, down, ("claim", 0, "Ab", "joe"))
        self.refused(NoDeed, down, ("claim", 0, "cd", ""))
        self.refused(NoDeed, down, ("renew", 0, "Ab"))
        self.refused(NoDeed, down, ("back", 0, "ab", 0))
        self.refused(NoDeed, down, ("fall", 0, 0))
        self.refused(NoDeed, down, ("carry", 0, 0))
        self.refused(NoDeed, self.claimed(), ("rise", 0, 0))
        self.refused(NoDeed, self.claimed(), ("rise", True))
        for kind in ("carry", "copy", "lose"):
            self.refused(NoDeed, world_of(3, 3), (kind, -1))
            self.refused(NoDeed, world_of(3, 3), (kind, True))
            self.refused(NoDeed, world_of(3, 3), (kind, 5, 5))
        self.refused(NoDeed, self.claimed(("part", (0,))), ("carry", False))
        self.refused(NoDeed, self.claimed(), ("claim", 0, "ab", "Joe"))
        self.refused(NoDeed, self.claimed(), ("renew", 0, "cdefghijk"))
        self.refused(NoDeed, self.claimed(), ("back", False, "cd"))

    def test_down_ahead_of_busy(self):
        self.refused(Down, self.claimed(("fall", 0)), ("claim", 0, "ab", "joe"))
        self.refused(Busy, self.claimed(("fall", 0), ("rise", 0)), ("claim", 0, "ab", "joe"))

    def test_down_ahead_of_no_claim(self):
        for kind in ("renew", "back"):
            self.refused(Down, self.claimed(("fall", 1)), (kind, 1, "ab"))
            self.refused(NoClaim, self.claimed(("fall", 1), ("rise", 1)), (kind, 1, "ab"))

    def test_down_ahead_of_the_parting(self):
        world = self.claimed(("fall", 1), ("part", (0,)))
        self.refused(Down, world, ("carry", 0))
        self.refused(NoLetter, world, ("carry", 1))
        self.refused(NoLetter, done(world, ("rise", 1)), ("carry", 0))
        self.refused(Down, done(world, ("heal",)), ("carry", 0))

    def test_no_letter_where_all_are_down_and_parted(self):
        world = self.claimed(("fall", 0), ("fall", 1), ("fall", 2), ("part", (0,)))
        self.refused(NoLetter, world, ("carry", 2))
        self.refused(Down, world, ("carry", 1))

    def test_what_is_refused_changes_nothing(self):
        world = self.claimed()
        for deed in (("claim", 0, "ab", "joe"), ("carry", 2), ("rise", 0), ("renew", 1, "ab"), ("part", ())):
            with self.assertRaises(HouseError):
                done(world, deed)
        self.assertEqual(behind(world, ("round",)), self.claimed(("round",)))


if __name__ == "__main__":
    unittest.main()
