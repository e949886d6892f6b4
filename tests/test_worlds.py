import unittest

from samples import NOT_WHOLE
from worlds_by_hand import all_carried, asked_of, behind, carried, run, written

from onename.errors import NoDeed
from onename.worlds import done, world_of

GREAT = 10 ** 29


def own(number, until, name="ab", house=0, person="joe"):
    """What a claim writes down where its own word is to be had."""
    return (("ask", name, number, person, until), ("word", name, house, number, until),
            ("got", name, number, house, until))


class WorldOfTest(unittest.TestCase):
    def test_every_world_at_its_begin(self):
        for many in range(1, 8):
            for term in range(2, 10):
                empty = tuple(() for house in range(many))
                self.assertEqual(world_of(many, term), (0, term, empty, empty, (), (), ()))

    def test_tuples_are_told(self):
        world = world_of(2, 3)
        for part in (world,) + world[2:] + world[2] + world[3]:
            self.assertIs(part.__class__, tuple)

    def test_out_of_bounds(self):
        for many in (0, -1, 8, 9, -7, 100, GREAT, -GREAT):
            with self.assertRaises(NoDeed):
                world_of(many, 3)
        for term in (1, 0, -1, -2, 10, 11, 100, GREAT, -GREAT):
            with self.assertRaises(NoDeed):
                world_of(3, term)

    def test_of_anything(self):
        for thing in NOT_WHOLE + ("3", b"3", [3], (3,), object, len, "three", "\n"):
            for many, term in ((thing, 3), (3, thing), (thing, thing)):
                with self.assertRaises(NoDeed):
                    world_of(many, term)


class ClaimTest(unittest.TestCase):
    def test_the_own_word_is_free(self):
        self.assertEqual(done(world_of(3, 3), ("claim", 0, "ab", "joe")),
                         written(0, 3, [own(1, 3), (), ()], yard=asked_of(0, (1, 2), "ab", 1, "joe", 3)))

    def test_at_a_house_in_the_middle_and_behind_a_round(self):
        self.assertEqual(run(4, 9, ("round",), ("round",), ("claim", 2, "zz", "ann")),
                         written(2, 9, [(), (), own(1, 11, "zz", 2, "ann"), ()],
                                 yard=asked_of(2, (0, 1, 3), "zz", 1, "ann", 11)))

    def test_the_own_word_of_another_name_does_not_matter(self):
        world = run(2, 3, ("claim", 0, "ab", "joe"), ("claim", 0, "cd", "ann"))
        self.assertEqual(world, written(0, 3, [own(1, 3) + own(2, 3, "cd", 0, "ann"), ()],
                                        yard=asked_of(0, (1,), "ab", 1, "joe", 3)
                                        + asked_of(0, (1,), "cd", 2, "ann", 3)))

    def test_the_own_word_has_run_out(self):
        world = run(2, 2, ("claim", 1, "ab", "ann"), ("carry", 0), ("lose", 0), ("round",))
        word = ("word", "ab", 1, 1, 2)
        self.assertEqual(world[2][0], (word,))
        self.assertEqual(done(world, ("claim", 0, "ab", "joe"))[2][0],
                         (word, ("ask", "ab", 1, "joe", 3), ("no", "ab", 1, 0)))
        self.assertEqual(behind(world, ("round",), ("claim", 0, "ab", "joe")),
                         written(2, 2, [(word,) + own(1, 4), own(1, 2, "ab", 1, "ann")],
                                 yard=asked_of(0, (1,), "ab", 1, "joe", 4)))

    def test_the_own_word_was_to_an_elder_claim_of_its_own_and_has_run_out(self):
        self.assertEqual(run(2, 2, ("claim", 0, "ab", "joe"), ("lose", 0), ("round",), ("round",),
                             ("claim", 0, "ab", "joe")),
                         written(2, 2, [own(1, 2) + own(2, 4), ()], yard=asked_of(0, (1,), "ab", 2, "joe", 4)))

    def test_the_own_word_is_another_claims(self):
        world = run(3, 3, ("claim", 1, "ab", "ann"), ("carry", 0))
        yard = (("ask", 1, 2, "ab", 1, "ann", 3), ("word", 0, 1, "ab", 1, 3))
        self.assertEqual(done(world, ("claim", 0, "ab", "joe")),
                         written(0, 3, [(("word", "ab", 1, 1, 3), ("ask", "ab", 1, "joe", 3), ("no", "ab", 1, 0)),
                                        own(1, 3, "ab", 1, "ann"), ()],
                                 yard=yard + asked_of(0, (1, 2), "ab", 1, "joe", 3)))

    def test_the_own_word_was_given_back(self):
        world = run(3, 3, ("claim", 0, "ab", "joe"), ("back", 0, "ab"), ("claim", 0, "ab", "ann"))
        self.assertEqual(world[2][0], own(1, 3) + (("back", "ab", 1), ("free", "ab", 0, 1))
                         + own(2, 3, "ab", 0, "ann"))

    def test_of_one_house_the_own_word_is_enough(self):
        world = run(1, 5, ("round",), ("claim", 0, "ab", "joe"))
        self.assertEqual(world, written(1, 5, [own(1, 6)], [(("ab", 0, 1, "joe", 1),)]))
        world = behind(world, ("back", 0, "ab"), ("round",), ("claim", 0, "ab", "ann"))
        self.assertEqual(world, written(2, 5, [own(1, 6) + (("back", "ab", 1), ("free", "ab", 0, 1))
                                               + own(2, 7, "ab", 0, "ann")], [(("ab", 0, 2, "ann", 2),)]))

    def test_of_two_houses_the_own_word_is_not_enough(self):
        world = run(2, 5, ("claim", 0, "ab", "joe"))
        self.assertEqual(world, written(0, 5, [own(1, 5), ()], yard=asked_of(0, (1,), "ab", 1, "joe", 5)))

    def test_letters_are_put_behind_the_yard(self):
        world = run(3, 3, ("claim", 0, "ab", "joe"), ("claim", 2, "cd", "ann"))
        self.assertEqual(world[6], asked_of(0, (1, 2), "ab", 1, "joe", 3) + asked_of(2, (0, 1), "cd", 1, "ann", 3))

    def test_where_the_elder_claim_just_ran_out(self):
        world = run(1, 2, ("claim", 0, "ab", "joe"), ("round",), ("round",), ("claim", 0, "ab", "ann"))
        self.assertEqual(world, written(2, 2, [own(1, 2) + own(2, 4, "ab", 0, "ann")], [(("ab", 0, 2, "ann", 2),)]))

    def test_while_parted_and_others_down(self):
        world = run(3, 3, ("part", (0,)), ("fall", 1), ("claim", 0, "ab", "joe"))
        self.assertEqual(world, written(0, 3, [own(1, 3), (), ()], None, (1,), (0,),
                                        asked_of(0, (1, 2), "ab", 1, "joe", 3)))


class RenewTest(unittest.TestCase):
    def test_at_the_round_of_the_claim(self):
        world = run(3, 3, ("claim", 0, "ab", "joe"), ("renew", 0, "ab"))
        self.assertEqual(world, written(0, 3, [own(1, 3) + (("ask", "ab", 1, "joe", 3),), (), ()],
                                        yard=asked_of(0, (1, 2), "ab", 1, "joe", 3) * 2))

    def test_later(self):
        world = run(3, 3, ("claim", 0, "ab", "joe"), ("round",), ("renew", 0, "ab"))
        self.assertEqual(world, written(1, 3, [own(1, 3) + own(1, 4), (), ()],
                                        yard=asked_of(0, (1, 2), "ab", 1, "joe", 3)
                                        + asked_of(0, (1, 2), "ab", 1, "joe", 4)))
        world = done(world, ("renew", 0, "ab"))
        self.assertEqual(world[2][0], own(1, 3) + own(1, 4) + (("ask", "ab", 1, "joe", 4),))

    def test_the_last_round_in_which_it_can_be(self):
        world = run(1, 3, ("claim", 0, "ab", "joe"), ("round",), ("round",), ("renew", 0, "ab"))
        self.assertEqual(world[2][0], own(1, 3) + own(1, 5))

    def test_number_and_person_are_the_claims(self):
        world = run(2, 3, ("claim", 1, "cd", "sue"), ("claim", 1, "ab", "ann"), ("claim", 1, "ef", "joe"), ("round",),
                    ("renew", 1, "ab"))
        self.assertEqual(world[2][1][9:], own(2, 4, "ab", 1, "ann"))
        self.assertEqual(world[6][3:], asked_of(1, (0,), "ab", 2, "ann", 4))

    def test_of_one_house_it_reaches_farther_at_once(self):
        world = run(1, 3, ("claim", 0, "ab", "joe"), ("round",), ("renew", 0, "ab"))
        self.assertEqual(world, written(1, 3, [own(1, 3) + own(1, 4)], [(("ab", 0, 1, "joe", 1),)]))
        again = done(world, ("renew", 0, "ab"))
        self.assertEqual(again, written(1, 3, [own(1, 3) + own(1, 4) + (("ask", "ab", 1, "joe", 4),)], world[3]))

    def test_of_one_house_without_anything_new_nothing_is_noticed(self):
        world = run(1, 3, ("claim", 0, "ab", "joe"), ("fall", 0), ("rise", 0), ("renew", 0, "ab"))
        self.assertEqual(world, written(0, 3, [own(1, 3) + (("ask", "ab", 1, "joe", 3),)]))

    def test_of_two_houses_the_other_one_does_not_reach_so_far_yet(self):
        world = all_carried(run(2, 3, ("claim", 0, "ab", "joe")), ("ask", 0, 1), ("word", 1, 0), ("told", 0, 1))
        world = behind(world, ("round",), ("renew", 0, "ab"))
        notice = ("ab", 0, 1, "joe", 0)
        self.assertEqual(world, written(1, 3, [own(1, 3) + (("got", "ab", 1, 1, 3),) + own(1, 4),
                                               (("word", "ab", 0, 1, 3),)], [(notice,), (notice,)],
                                        yard=asked_of(0, (1,), "ab", 1, "joe", 4)))

    def refused_by_itself(self):
        """House 0 of three claims, its own word being house 1's."""
        return behind(run(3, 4, ("claim", 1, "ab", "ann"), ("carry", 0), ("lose", 1), ("lose", 0)),
                      ("claim", 0, "ab", "joe"))

    def test_not_to_be_had_with_a_no_of_itself(self):
        world = self.refused_by_itself()
        log = (("word", "ab", 1, 1, 4), ("ask", "ab", 1, "joe", 4), ("no", "ab", 1, 0))
        self.assertEqual(world[2][0], log)
        self.assertEqual(behind(world, ("round",), ("renew", 0, "ab")),
                         written(1, 4, [log + (("ask", "ab", 1, "joe", 5),), own(1, 4, "ab", 1, "ann"), ()],
                                 yard=asked_of(0, (1, 2), "ab", 1, "joe", 4) + asked_of(0, (1, 2), "ab", 1, "joe", 5)))

    def test_not_to_be_had_without_a_no_or_a_word_of_itself(self):
        log = (("word", "ab", 1, 1, 4), ("ask", "ab", 1, "joe", 3), ("got", "ab", 1, 2, 3), ("no", "ab", 1, 1),
               ("no", "ab", 2, 0), ("no", "cd", 1, 0))
        world = done(written(0, 3, [log, (), ()]), ("renew", 0, "ab"))
        self.assertEqual(world, written(0, 3, [log + (("ask", "ab", 1, "joe", 3), ("no", "ab", 1, 0)), (), ()],
                                        yard=asked_of(0, (1, 2), "ab", 1, "joe", 3)))

    def test_not_to_be_had_with_a_word_of_itself(self):
        log = own(1, 1) + (("ask", "ab", 1, "joe", 3), ("word", "ab", 1, 1, 4))
        world = done(written(2, 3, [log, (), ()]), ("renew", 0, "ab"))
        self.assertEqual(world, written(2, 3, [log + (("ask", "ab", 1, "joe", 5),), (), ()],
                                        yard=asked_of(0, (1, 2), "ab", 1, "joe", 5)))

    def test_its_word_reaches_so_far_and_nothing_is_written_of_it(self):
        log = (("ask", "ab", 1, "joe", 3), ("word", "ab", 0, 1, 3))
        world = done(written(0, 3, [log, (), ()]), ("renew", 0, "ab"))
        self.assertEqual(world, written(0, 3, [log + (("ask", "ab", 1, "joe", 3),), (), ()],
                                        yard=asked_of(0, (1, 2), "ab", 1, "joe", 3)))

    def test_to_be_had_behind_a_no_of_itself(self):
        """The other claim is given back; then its own word makes the needed words reach farther at once."""
        world = behind(self.refused_by_itself(), ("round",))
        world = all_carried(world, ("ask", 0, 2), ("word", 2, 0))
        world = carried(done(world, ("back", 1, "ab")), "back", 1, 0)
        log = (("word", "ab", 1, 1, 4), ("ask", "ab", 1, "joe", 4), ("no", "ab", 1, 0), ("got", "ab", 1, 2, 4),
               ("free", "ab", 1, 1))
        yard = (("ask", 0, 1, "ab", 1, "joe", 4), ("back", 1, 2, "ab", 1))
        given_back = own(1, 4, "ab", 1, "ann") + (("back", "ab", 1), ("free", "ab", 1, 1))
        self.assertEqual(world, written(1, 4, [log, given_back, (("word", "ab", 0, 1, 4),)], yard=yard))
        notice = ("ab", 0, 1, "joe", 1)
        told = tuple(("told", 0, other, "ab", 1, "joe", 1) for other in (1, 2))
        self.assertEqual(done(world, ("renew", 0, "ab")),
                         written(1, 4, [log + own(1, 5), given_back, (("word", "ab", 0, 1, 4),)], [(notice,), (), ()],
                                 yard=yard + asked_of(0, (1, 2), "ab", 1, "joe", 5) + told))

    def test_the_needed_words_reach_farther_but_not_above_now(self):
        """A word that ran out is not helped by its own one."""
        log = (("ask", "ab", 1, "joe", 4), ("got", "ab", 1, 2, 2))
        world = done(written(2, 3, [log, (), ()]), ("renew", 0, "ab"))
        self.assertEqual(world, written(2, 3, [log + own(1, 5), (), ()],
                                        yard=asked_of(0, (1, 2), "ab", 1, "joe", 5)))
        log = (("ask", "ab", 1, "joe", 4), ("got", "ab", 1, 2, 3))
        world = done(written(2, 3, [log, (), ()]), ("renew", 0, "ab"))
        self.assertEqual(world[3], ((("ab", 0, 1, "joe", 2),), (), ()))


class BackTest(unittest.TestCase):
    def test_with_its_own_word(self):
        world = run(3, 3, ("claim", 1, "ab", "ann"), ("back", 1, "ab"))
        log = own(1, 3, "ab", 1, "ann") + (("back", "ab", 1), ("free", "ab", 1, 1))
        self.assertEqual(world, written(0, 3, [(), log, ()], yard=asked_of(1, (0, 2), "ab", 1, "ann", 3)
                                        + (("back", 1, 0, "ab", 1), ("back", 1, 2, "ab", 1))))

    def test_its_own_word_is_another_claims(self):
        world = run(3, 3, ("claim", 1, "ab", "ann"), ("carry", 0), ("lose", 1), ("lose", 0),
                    ("claim", 0, "ab", "joe"), ("back", 0, "ab"))
        log = (("word", "ab", 1, 1, 3), ("ask", "ab", 1, "joe", 3), ("no", "ab", 1, 0), ("back", "ab", 1))
        self.assertEqual(world, written(0, 3, [log, own(1, 3, "ab", 1, "ann"), ()],
                                        yard=asked_of(0, (1, 2), "ab", 1, "joe", 3)
                                        + (("back", 0, 1, "ab", 1), ("back", 0, 2, "ab", 1))))

    def test_its_own_word_is_free(self):
        world = run(3, 3, ("claim", 1, "ab", "ann"), ("carry", 0), ("claim", 0, "ab", "joe"), ("back", 1, "ab"))
        world = done(carried(world, "back", 1, 0), ("back", 0, "ab"))
        self.assertEqual(world[2][0], (("word", "ab", 1, 1, 3), ("ask", "ab", 1, "joe", 3), ("no", "ab", 1, 0),
                                       ("free", "ab", 1, 1), ("back", "ab", 1)))

    def test_its_own_word_of_another_name_stays(self):
        world = run(2, 3, ("claim", 0, "ab", "joe"), ("claim", 0, "cd", "joe"), ("back", 0, "ab"))
        self.assertEqual(world[2][0], own(1, 3) + own(2, 3, "cd") + (("back", "ab", 1), ("free", "ab", 0, 1)))

    def test_of_one_house_its_notice_stays(self):
        world = run(1, 3, ("claim", 0, "ab", "joe"), ("round",), ("back", 0, "ab"))
        self.assertEqual(world, written(1, 3, [own(1, 3) + (("back", "ab", 1), ("free", "ab", 0, 1))],
                                        [(("ab", 0, 1, "joe", 0),)]))


class CarryTest(unittest.TestCase):
    """Houses 0 and 1 of three; the letters that are taken do what onename.letters tells of them."""

    def test_an_ask_from_the_begin_of_the_yard(self):
        world = run(3, 3, ("claim", 0, "ab", "joe"), ("carry", 0))
        self.assertEqual(world, written(0, 3, [own(1, 3), (("word", "ab", 0, 1, 3),), ()],
                                        yard=asked_of(0, (2,), "ab", 1, "joe", 3) + (("word", 1, 0, "ab", 1, 3),)))

    def test_an_ask_from_the_end_of_the_yard(self):
        world = run(3, 3, ("claim", 0, "ab", "joe"), ("carry", 1))
        self.assertEqual(world, written(0, 3, [own(1, 3), (), (("word", "ab", 0, 1, 3),)],
                                        yard=asked_of(0, (1,), "ab", 1, "joe", 3) + (("word", 2, 0, "ab", 1, 3),)))

    def test_an_ask_from_the_middle_of_the_yard(self):
        world = run(4, 3, ("claim", 0, "ab", "joe"), ("carry", 1))
        self.assertEqual(world, written(0, 3, [own(1, 3), (), (("word", "ab", 0, 1, 3),), ()],
                                        yard=asked_of(0, (1, 3), "ab", 1, "joe", 3) + (("word", 2, 0, "ab", 1, 3),)))

    def test_an_ask_too_late(self):
        world = run(2, 2, ("claim", 0, "ab", "joe"), ("round",), ("round",), ("carry", 0))
        self.assertEqual(world, written(2, 2, [own(1, 2), ()]))

    def test_a_word_with_which_the_needed_are_there(self):
        world = run(3, 3, ("claim", 0, "ab", "joe"), ("carry", 0), ("round",), ("carry", 1))
        told = (("told", 0, 1, "ab", 1, "joe", 1), ("told", 0, 2, "ab", 1, "joe", 1))
        self.assertEqual(world, written(1, 3, [own(1, 3) + (("got", "ab", 1, 1, 3),), (("word", "ab", 0, 1, 3),), ()],
                                        [(("ab", 0, 1, "joe", 1),), (), ()],
                                        yard=asked_of(0, (2,), "ab", 1, "joe", 3) + told))

    def test_a_word_too_late(self):
        world = run(3, 2, ("claim", 0, "ab", "joe"), ("carry", 0), ("round",), ("round",), ("carry", 1))
        self.assertEqual(world, written(2, 2, [own(1, 2) + (("got", "ab", 1, 1, 2),), (("word", "ab", 0, 1, 2),), ()],
                                        yard=asked_of(0, (2,), "ab", 1, "joe", 2)))

    def test_a_word_to_a_claim_that_was_given_back(self):
        world = run(2, 3, ("claim", 0, "ab", "joe"), ("carry", 0), ("back", 0, "ab"), ("carry", 0))
        self.assertEqual(world, written(0, 3, [own(1, 3) + (("back", "ab", 1), ("free", "ab", 0, 1)),
                                               (("word", "ab", 0, 1, 3),)],
                                        yard=(("back", 0, 1, "ab", 1), ("back", 0, 1, "ab", 1))))

    def test_a_no(self):
        world = run(2, 3, ("claim", 0, "ab", "joe"), ("claim", 1, "ab", "ann"), ("carry", 0))
        self.assertEqual(world[6], asked_of(1, (0,), "ab", 1, "ann", 3) + (("no", 1, 0, "ab", 1),))
        world = done(world, ("carry", 1))
        self.assertEqual(world, written(0, 3, [own(1, 3) + (("no", "ab", 1, 1),), own(1, 3, "ab", 1, "ann")],
                                        yard=asked_of(1, (0,), "ab", 1, "ann", 3)))

    def test_a_back(self):
        world = run(2, 3, ("claim", 0, "ab", "joe"), ("carry", 0), ("back", 0, "ab"), ("carry", 1))
        self.assertEqual(world, written(0, 3, [own(1, 3) + (("back", "ab", 1), ("free", "ab", 0, 1)),
                                               (("word", "ab", 0, 1, 3), ("free", "ab", 0, 1))],
                                        yard=(("word", 1, 0, "ab", 1, 3),)))

    def test_a_told(self):
        world = run(3, 3, ("claim", 0, "ab", "joe"), ("carry", 0), ("carry", 1), ("round",), ("carry", 2))
        self.assertEqual(world, written(1, 3, [own(1, 3) + (("got", "ab", 1, 1, 3),), (("word", "ab", 0, 1, 3),), ()],
                                        [(("ab", 0, 1, "joe", 0),), (), (("ab", 0, 1, "joe", 0),)],
                                        yard=asked_of(0, (2,), "ab", 1, "joe", 3)
                                        + (("told", 0, 1, "ab", 1, "joe", 0),)))

    def test_of_a_house_that_is_down(self):
        world = run(3, 3, ("claim", 0, "ab", "joe"), ("fall", 0), ("carry", 0))
        self.assertEqual(world, written(0, 3, [own(1, 3), (("word", "ab", 0, 1, 3),), ()], None, (0,), (),
                                        asked_of(0, (2,), "ab", 1, "joe", 3) + (("word", 1, 0, "ab", 1, 3),)))

    def test_on_either_side_of_a_parting(self):
        world = run(4, 3, ("part", (0, 1)), ("claim", 0, "ab", "joe"), ("claim", 2, "cd", "ann"))
        world = carried(carried(world, "ask", 0, 1), "ask", 2, 3)
        self.assertEqual(world[2][1], (("word", "ab", 0, 1, 3),))
        self.assertEqual(world[2][3], (("word", "cd", 2, 1, 3),))


class YardTest(unittest.TestCase):
    def test_copies(self):
        world = run(4, 3, ("claim", 0, "ab", "joe"))
        first, second, third = world[6]
        for place, letter in enumerate((first, second, third)):
            self.assertEqual(done(world, ("copy", place)), world[:6] + ((first, second, third, letter),))

    def test_losses(self):
        world = run(4, 3, ("claim", 0, "ab", "joe"))
        first, second, third = world[6]
        self.assertEqual(done(world, ("lose", 0)), world[:6] + ((second, third),))
        self.assertEqual(done(world, ("lose", 1)), world[:6] + ((first, third),))
        self.assertEqual(done(world, ("lose", 2)), world[:6] + ((first, second),))
        self.assertEqual(behind(world, ("lose", 0), ("lose", 0), ("lose", 0)), world[:6] + ((),))

    def test_of_and_to_houses_that_are_down_and_parted(self):
        world = run(3, 3, ("claim", 0, "ab", "joe"), ("part", (0,)))
        first, second = world[6]
        for house in (0, 1):
            world = done(world, ("fall", house))
            self.assertEqual(done(world, ("copy", 0)), world[:6] + ((first, second, first),))
            self.assertEqual(done(world, ("lose", 0)), world[:6] + ((second,),))

    def test_a_copy_can_be_carried_like_any(self):
        world = run(2, 3, ("claim", 0, "ab", "joe"), ("copy", 0), ("carry", 0), ("carry", 0))
        self.assertEqual(world[2][1], (("word", "ab", 0, 1, 3),))
        self.assertEqual(world[6], (("word", 1, 0, "ab", 1, 3),) * 2)


class HousesAndNetTest(unittest.TestCase):
    def had(self):
        """House 0 of three has ab, and all know it."""
        return all_carried(run(3, 3, ("claim", 0, "ab", "joe")), ("ask", 0, 1), ("word", 1, 0), ("told", 0, 1),
                           ("told", 0, 2))

    def test_a_fall_takes_the_notices(self):
        world = self.had()
        notices = (("ab", 0, 1, "joe", 0),)
        self.assertEqual(world[3], (notices,) * 3)
        fallen = done(world, ("fall", 1))
        self.assertEqual(fallen, world[:3] + ((notices, (), notices), (1,)) + world[5:])
        self.assertEqual(done(fallen, ("fall", 0)), world[:3] + (((), (), notices), (0, 1)) + world[5:])
        self.assertEqual(behind(fallen, ("fall", 2), ("fall", 0))[3:5], (((), (), ()), (0, 1, 2)))

    def test_down_is_rising(self):
        self.assertEqual(run(7, 3, ("fall", 6), ("fall", 2), ("fall", 4), ("fall", 0))[4], (0, 2, 4, 6))

    def test_a_rise(self):
        world = run(4, 3, ("fall", 3), ("fall", 1), ("fall", 2))
        self.assertEqual(done(world, ("rise", 2)), world[:4] + ((1, 3),) + world[5:])
        self.assertEqual(done(world, ("rise", 1)), world[:4] + ((2, 3),) + world[5:])
        self.assertEqual(done(world, ("rise", 3)), world[:4] + ((1, 2),) + world[5:])
        self.assertEqual(behind(world, ("rise", 3), ("rise", 1), ("rise", 2)), world_of(4, 3))

    def test_a_rise_brings_the_log_but_no_notices(self):
        world = self.had()
        risen = behind(world, ("fall", 0), ("rise", 0))
        self.assertEqual(risen, world[:3] + (((),) + world[3][1:],) + world[4:])

    def test_a_parting_in_the_place_of_an_elder_one(self):
        world = run(4, 3, ("part", (0, 2)))
        self.assertEqual(world, written(0, 3, [(), (), (), ()], side=(0, 2)))
        self.assertEqual(done(world, ("part", (1,))), written(0, 3, [(), (), (), ()], side=(1,)))
        self.assertEqual(done(world, ("part", (1, 2, 3))), written(0, 3, [(), (), (), ()], side=(1, 2, 3)))

    def test_heal(self):
        self.assertEqual(run(4, 3, ("part", (0, 2)), ("heal",)), world_of(4, 3))
        self.assertEqual(run(4, 3, ("heal",)), world_of(4, 3))
        self.assertEqual(run(1, 3, ("heal",)), world_of(1, 3))

    def test_round(self):
        world = self.had()
        self.assertEqual(done(world, ("round",)), (1,) + world[1:])
        self.assertEqual(behind(world, ("round",), ("round",)), (2,) + world[1:])
        self.assertEqual(run(1, 2, ("fall", 0), ("round",)), written(1, 2, [()], None, (0,)))


class NoticeTest(unittest.TestCase):
    def noticed(self, notices, *letters):
        """House 0's notices behind these told letters."""
        world = written(9, 3, [(), (), ()], [notices, (), ()], yard=letters)
        for letter in letters:
            world = done(world, ("carry", 0))
        return world[3]

    def test_an_earlier_round(self):
        old = (("ab", 2, 1, "joe", 5),)
        self.assertEqual(self.noticed(old, ("told", 1, 0, "ab", 3, "ann", 4)), (old, (), ()))

    def test_the_same_and_a_later_round(self):
        old = (("ab", 2, 1, "joe", 5),)
        for late in (5, 6, 9):
            self.assertEqual(self.noticed(old, ("told", 1, 0, "ab", 3, "ann", late)),
                             ((("ab", 1, 3, "ann", late),), (), ()))

    def test_the_same_round_whatever_else_is_greater(self):
        old = (("ab", 2, 9, "zoe", 5),)
        self.assertEqual(self.noticed(old, ("told", 1, 0, "ab", 3, "ann", 5)), ((("ab", 1, 3, "ann", 5),), (), ()))

    def test_by_names(self):
        letters = [("told", 1, 0, name, 3, "ann", late)
                   for name, late in (("cd", 1), ("b", 3), ("abc", 0), ("ab", 2), ("zz", 0))]
        told = [("ab", 2), ("abc", 0), ("b", 3), ("cd", 1), ("zz", 0)]
        self.assertEqual(self.noticed((), *letters)[0], tuple((name, 1, 3, "ann", late) for name, late in told))

    def test_another_name_stays_as_it_is(self):
        old = (("ab", 2, 1, "joe", 5), ("cd", 2, 2, "joe", 7))
        self.assertEqual(self.noticed(old, ("told", 1, 0, "cd", 3, "ann", 8))[0],
                         (("ab", 2, 1, "joe", 5), ("cd", 1, 3, "ann", 8)))
        self.assertEqual(self.noticed(old, ("told", 1, 0, "cd", 3, "ann", 6))[0], old)

    def test_its_own_claim_later(self):
        world = run(1, 3, ("claim", 0, "cd", "joe"), ("round",), ("claim", 0, "ab", "ann"), ("round",),
                    ("renew", 0, "cd"))
        self.assertEqual(world[3], ((("ab", 0, 2, "ann", 1), ("cd", 0, 1, "joe", 2)),))


class StaysTest(unittest.TestCase):
    DEEDS = (("claim", 1, "cd", "ann"), ("renew", 0, "ab"), ("back", 0, "ab"), ("carry", 0), ("copy", 1), ("lose", 2),
             ("fall", 2), ("rise", 1), ("part", (0, 1)), ("heal",), ("round",))

    def world(self):
        return all_carried(run(3, 3, ("claim", 0, "ab", "joe")), ("ask", 0, 1), ("word", 1, 0), ("ask", 0, 2))

    def test_the_world_that_was_handed_in_stays_as_it_was(self):
        for deed in self.DEEDS:
            world = done(self.world(), ("fall", 1)) if deed[0] == "rise" else self.world()
            kept = repr(world)
            told = done(world, deed)
            self.assertEqual(repr(world), kept)
            # The same asked again is answered the same.
            self.assertEqual(done(world, deed), told)

    def test_a_world_is_made_of_tuples_texts_and_whole_numbers(self):
        def look(thing):
            self.assertIn(thing.__class__, (tuple, int, str))
            if thing.__class__ is tuple:
                for part in thing:
                    look(part)
        for deed in self.DEEDS:
            world = done(self.world(), ("fall", 1)) if deed[0] == "rise" else self.world()
            look(done(world, deed))
            self.assertEqual(len(done(world, deed)), 7)

    def test_hundreds_of_letters_and_entries(self):
        world = world_of(7, 3)
        for number in range(1, 161):
            world = behind(world, ("claim", 0, "ab", "joe"), ("back", 0, "ab"))
        self.assertEqual(len(world[2][0]), 160 * 5)
        self.assertEqual(len(world[6]), 160 * 12)
        for step in range(600):
            world = done(world, ("carry", 0))
        self.assertEqual(world[2][0][-1], ("free", "ab", 0, 160))


if __name__ == "__main__":
    unittest.main()
