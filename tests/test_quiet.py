import unittest

from model import Model
from samples import NAMES, NOT_NAMES, NOT_WHOLE
from worlds_by_hand import all_carried, asked_of, behind, run, written

from onename.errors import HouseError, NoDeed
from onename.holders import holder_of, paper_for, paper_shows
from onename.looks import ages_of
from onename.quiet import barred_for, claimed_surely, quiet_round, quiet_rounds
from onename.worlds import done, world_of

GREAT = 10 ** 29


class QuietRoundTest(unittest.TestCase):
    def test_an_empty_yard(self):
        for many in range(1, 8):
            self.assertEqual(quiet_round(world_of(many, 3)), (1,) + world_of(many, 3)[1:])

    def test_what_comes_of_a_carry_is_carried_too(self):
        ask = ("ask", "ab", 1, "joe", 3)
        notice = ("ab", 0, 1, "joe", 0)
        self.assertEqual(quiet_round(run(2, 3, ("claim", 0, "ab", "joe"))),
                         written(1, 3, [(ask, ("word", "ab", 0, 1, 3), ("got", "ab", 1, 0, 3), ("got", "ab", 1, 1, 3)),
                                        (("word", "ab", 0, 1, 3),)], [(notice,), (notice,)]))

    def test_the_first_letter_is_carried_first(self):
        """Houses 0 and 2 ask house 1: the one whose ask stands ahead gets its word."""
        world = run(3, 3, ("claim", 0, "ab", "joe"), ("claim", 2, "ab", "ann"))
        self.assertEqual(holder_of(quiet_round(world), "ab"), (0, 1, "joe"))
        world = run(3, 3, ("claim", 2, "ab", "ann"), ("claim", 0, "ab", "joe"))
        self.assertEqual(holder_of(quiet_round(world), "ab"), (2, 1, "ann"))

    def test_letters_that_came_of_a_carry_stand_behind(self):
        """A back that stands in the yard is carried ahead of the word that its ask brings about."""
        world = run(2, 3, ("claim", 0, "ab", "joe"), ("back", 0, "ab"))
        world = quiet_round(world)
        self.assertEqual(world[2][1], (("word", "ab", 0, 1, 3), ("free", "ab", 0, 1)))
        self.assertEqual(world[6], ())

    def test_behind_letters_that_cannot_be_carried(self):
        world = run(4, 3, ("part", (1,)), ("fall", 2), ("claim", 0, "ab", "joe"), ("claim", 3, "cd", "ann"))
        asks = asked_of(0, (1, 2), "ab", 1, "joe", 3) + asked_of(3, (1, 2), "cd", 1, "ann", 3)
        world = quiet_round(world)
        self.assertEqual(world[6], asks)
        self.assertEqual(world[2][3][3:], (("word", "ab", 0, 1, 3), ("got", "cd", 1, 0, 3)))
        self.assertEqual(world[2][0][3:], (("word", "cd", 3, 1, 3), ("got", "ab", 1, 3, 3)))
        self.assertEqual((world[0], world[4], world[5]), (1, (2,), (1,)))

    def test_what_is_told_stays_back_where_it_cannot_be_carried(self):
        world = run(3, 3, ("part", (2,)), ("claim", 0, "ab", "joe"))
        world = quiet_round(world)
        self.assertEqual(world[6], asked_of(0, (2,), "ab", 1, "joe", 3) + (("told", 0, 2, "ab", 1, "joe", 0),))
        self.assertEqual(ages_of(world, "ab"), [1, 1, None])
        world = quiet_round(done(world, ("heal",)))
        self.assertEqual(world[6], ())
        self.assertEqual(ages_of(world, "ab"), [2, 2, 2])

    def test_of_a_house_that_is_down_letters_are_carried(self):
        world = run(3, 3, ("claim", 0, "ab", "joe"), ("fall", 0))
        world = quiet_round(world)
        self.assertEqual(world[6], (("word", 1, 0, "ab", 1, 3), ("word", 2, 0, "ab", 1, 3)))
        self.assertIsNone(holder_of(world, "ab"))
        self.assertEqual(holder_of(quiet_round(done(world, ("rise", 0))), "ab"), (0, 1, "joe"))

    def test_all_down(self):
        world = run(2, 3, ("claim", 0, "ab", "joe"), ("fall", 0), ("fall", 1))
        self.assertEqual(quiet_round(world), (1,) + world[1:])

    def test_hundreds_of_letters_and_entries(self):
        names = [first + second for first in "abcdefghijklm" for second in "nopqrstuvw"]
        world = world_of(7, 9)
        for at, name in enumerate(names):
            world = done(world, ("claim", at % 7, name, "joe"))
        self.assertEqual(len(world[6]), 780)
        settled = quiet_round(world)
        self.assertEqual([holder_of(settled, name) is not None for name in names], [True] * 130)
        self.assertEqual(settled[6], ())
        self.assertEqual(quiet_round(done(world, ("part", (0, 1, 2))))[0], 1)
        self.assertTrue(all(len(log) > 250 for log in settled[2]))


class QuietRoundsTest(unittest.TestCase):
    def world(self):
        return run(4, 3, ("part", (1,)), ("fall", 2), ("claim", 0, "ab", "joe"), ("claim", 3, "cd", "ann"))

    def test_none(self):
        self.assertEqual(quiet_rounds(self.world(), 0), self.world())

    def test_one_and_several(self):
        world = self.world()
        for rounds in range(1, 12):
            world = quiet_round(world)
            self.assertEqual(quiet_rounds(self.world(), rounds), world)
            self.assertEqual(world[0], rounds)

    def test_one_by_one_with_letters_that_run_out(self):
        world = run(3, 2, ("claim", 0, "ab", "joe"), ("fall", 1), ("claim", 2, "ab", "ann"), ("fall", 2))
        model = Model(world)
        for rounds in range(1, 6):
            model.quiet_round()
            self.assertEqual(quiet_rounds(world, rounds), model.world())

    def test_very_many(self):
        world = quiet_rounds(self.world(), GREAT)
        self.assertEqual(world, (GREAT,) + quiet_round(self.world())[1:])

    def test_the_world_stays_as_it_was(self):
        world = self.world()
        kept = repr(world)
        quiet_round(world)
        quiet_rounds(world, 3)
        claimed_surely(world, 0, "ab", "joe")
        barred_for(world, "ab")
        self.assertEqual(repr(world), kept)


class BarredTest(unittest.TestCase):
    def test_by_none(self):
        for many in range(1, 8):
            for name in NAMES:
                self.assertEqual(barred_for(world_of(many, 3), name), 0)
        self.assertEqual(barred_for(run(3, 3, ("claim", 0, "cd", "joe")), "ab"), 0)

    def test_by_a_word(self):
        world = run(3, 3, ("claim", 0, "ab", "joe"), ("lose", 0), ("lose", 0))
        self.assertEqual(barred_for(world, "ab"), 3)
        self.assertEqual(barred_for(world, "cd"), 0)
        self.assertEqual(barred_for(run(1, 9, ("claim", 0, "ab", "joe")), "ab"), 9)

    def test_by_another_houses_word(self):
        world = run(3, 3, ("claim", 0, "ab", "joe"), ("carry", 0), ("lose", 0), ("lose", 0), ("back", 0, "ab"),
                    ("lose", 0), ("lose", 0))
        self.assertEqual(world[6], ())
        self.assertEqual(barred_for(world, "ab"), 3)
        self.assertEqual(barred_for(behind(world, ("fall", 1), ("round",)), "ab"), 2)

    def test_by_an_ask_letter(self):
        world = run(3, 3, ("claim", 0, "ab", "joe"), ("back", 0, "ab"))
        self.assertEqual(barred_for(world, "ab"), 3)
        world = behind(world, ("lose", 0), ("round",))
        self.assertEqual(barred_for(world, "ab"), 2)
        self.assertEqual(barred_for(behind(world, ("part", (0,)), ("fall", 2)), "ab"), 2)
        self.assertEqual(barred_for(world, "cd"), 0)
        world = done(world, ("lose", 0))
        self.assertEqual(world[6], (("back", 0, 1, "ab", 1), ("back", 0, 2, "ab", 1)))
        self.assertEqual(barred_for(world, "ab"), 0)

    def test_by_other_letters_it_is_not(self):
        letters = (("word", 1, 0, "ab", 1, 8), ("no", 1, 0, "ab", 9), ("back", 0, 1, "ab", 9),
                   ("told", 0, 1, "ab", 9, "joe", 9), ("ask", 0, 1, "cd", 1, "ab", 8))
        self.assertEqual(barred_for(written(1, 9, [(), ()], yard=letters), "ab"), 0)
        self.assertEqual(barred_for(written(1, 9, [(), ()], yard=letters), "cd"), 7)

    def test_by_both(self):
        world = run(3, 5, ("claim", 0, "ab", "joe"), ("carry", 0), ("lose", 1), ("lose", 0), ("round",), ("round",))
        self.assertEqual(barred_for(world, "ab"), 3)
        renewed = behind(world, ("renew", 0, "ab"), ("back", 0, "ab"))
        # House 1's word reaches to round 5, the ask letters to round 7.
        self.assertEqual(barred_for(renewed, "ab"), 5)
        self.assertEqual(barred_for(behind(renewed, ("lose", 0)), "ab"), 5)
        self.assertEqual(barred_for(behind(renewed, ("lose", 0), ("lose", 0)), "ab"), 3)

    def test_the_greatest_word_of_several_houses(self):
        logs = [(("word", "ab", 0, 1, until),) for until in (4, 9, 6, 3, 12)]
        for now in range(15):
            self.assertEqual(barred_for(written(now, 9, logs), "ab"), max(12 - now, 0))
        self.assertEqual(barred_for(written(0, 9, logs[:1] + [(("word", "ab", 0, 1, 9), ("free", "ab", 0, 1))]), "ab"), 4)

    def test_one_less_behind_each_round(self):
        for term in (2, 3, 9):
            world = run(3, term, ("claim", 0, "ab", "joe"), ("carry", 0))
            for left in range(term, 0, -1):
                self.assertEqual(barred_for(world, "ab"), left)
                world = done(world, ("round",))
            for step in range(3):
                self.assertEqual(barred_for(world, "ab"), 0)
                world = done(world, ("round",))

    def test_renewed(self):
        world = run(3, 3, ("claim", 0, "ab", "joe"), ("round",), ("renew", 0, "ab"))
        self.assertEqual(barred_for(world, "ab"), 3)

    def test_not_barred_means_that_a_claim_is_told_yes(self):
        world = behind(run(3, 2, ("claim", 0, "ab", "joe"), ("claim", 1, "ab", "ann")), ("round",), ("round",))
        self.assertEqual(barred_for(world, "ab"), 0)
        self.assertEqual(holder_of(quiet_round(done(world, ("claim", 2, "ab", "sue"))), "ab"), (2, 1, "sue"))


class SureTest(unittest.TestCase):
    def sure(self, world, house, name="ab", person="sue"):
        told = claimed_surely(world, house, name, person)
        self.assertIs(told.__class__, tuple)
        after, number = told
        model = Model(world)
        self.assertEqual(model.claim_surely(house, name, person), number)
        self.assertEqual(after, model.world())
        self.assertEqual(holder_of(after, name), (house, number, person))
        self.assertTrue(paper_shows(after, paper_for(after, name)))
        self.assertEqual((after[0], after[4], after[5], after[6]), (world[0] + world[1] + 1, (), (), ()))
        return number

    def test_from_the_begin(self):
        for many in range(1, 8):
            for term in (2, 9):
                for house in range(many):
                    self.assertEqual(self.sure(world_of(many, term), house), 1)

    def test_the_whole_world(self):
        self.assertEqual(claimed_surely(world_of(1, 2), 0, "ab", "sue"),
                         (written(3, 2, [(("ask", "ab", 1, "sue", 4), ("word", "ab", 0, 1, 4), ("got", "ab", 1, 0, 4))],
                                  [(("ab", 0, 1, "sue", 2),)]), 1))

    def test_of_a_name_that_another_house_has(self):
        world = quiet_round(run(3, 3, ("claim", 0, "ab", "joe")))
        self.assertEqual(holder_of(world, "ab"), (0, 1, "joe"))
        self.assertEqual(self.sure(world, 1), 1)
        self.assertEqual(self.sure(world, 0), 2)

    def test_of_a_house_with_other_claims(self):
        world = run(3, 3, ("claim", 0, "cd", "joe"), ("claim", 0, "ef", "joe"), ("claim", 1, "ab", "joe"))
        self.assertEqual(self.sure(world, 0), 3)
        self.assertEqual(self.sure(world, 1), 2)
        self.assertEqual(self.sure(world, 0, "cd"), 3)

    def test_from_a_parted_world_with_letters(self):
        world = run(5, 4, ("part", (0, 1)), ("claim", 0, "ab", "joe"), ("claim", 4, "ab", "ann"), ("carry", 0),
                    ("round",))
        for house in range(5):
            self.sure(world, house)

    def test_at_houses_that_were_down(self):
        world = all_carried(run(3, 3, ("claim", 0, "ab", "joe")), ("ask", 0, 1))
        world = behind(world, ("fall", 2), ("fall", 0), ("fall", 1), ("part", (2,)))
        for house in range(3):
            self.sure(world, house)

    def test_asks_in_the_yard_are_answered_ahead_of_it(self):
        """The last round's asks reach just as far as the quiet rounds."""
        world = run(3, 2, ("claim", 0, "ab", "joe"), ("fall", 1), ("fall", 2), ("copy", 0), ("copy", 1))
        self.sure(world, 1)
        self.sure(world, 2)

    def test_a_part_that_is_none(self):
        down = run(3, 3, ("fall", 0), ("part", (0,)), ("claim", 1, "ab", "joe"))
        for world in (world_of(3, 3), down):
            for house in NOT_WHOLE + (3, 4, -1, -3, GREAT, -GREAT, "ab"):
                self.refused(world, house, "ab", "sue")
            for name in NOT_NAMES:
                self.refused(world, 0, name, "sue")
                self.refused(world, 0, "ab", name)
            self.refused(world, 3, "", "")

    def refused(self, world, house, name, person):
        kept = repr(world)
        with self.assertRaises(HouseError) as caught:
            claimed_surely(world, house, name, person)
        self.assertIs(caught.exception.__class__, NoDeed, (house, name, person))
        self.assertEqual(repr(world), kept)

    def test_with_hundreds_of_letters(self):
        world = run(7, 9, ("claim", 0, "ab", "joe"))
        for step in range(500):
            world = done(world, ("copy", step))
        self.assertEqual(len(world[6]), 506)
        self.sure(world, 6)


if __name__ == "__main__":
    unittest.main()
