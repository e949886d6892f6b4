import unittest

from samples import NAMES, NOT_NAMES, NOT_WHOLE, STRANGE, replaced
from worlds_by_hand import all_carried, behind, run, written

from onename.holders import holder_of, paper_for, paper_shows
from onename.quiet import quiet_round
from onename.worlds import done, world_of

GREAT = 10 ** 29


def had_by_needed(many, term, house, *deeds):
    """A house has ab, by the needed words: its own and those of the next houses, round about."""
    world = behind(run(many, term, *deeds), ("claim", house, "ab", "joe"))
    for other in range(1, many // 2 + 1):
        other = (house + other) % many
        world = all_carried(world, ("ask", house, other), ("word", other, house))
    return world


class HolderTest(unittest.TestCase):
    def test_nobody(self):
        for many in range(1, 8):
            for name in NAMES:
                self.assertIsNone(holder_of(world_of(many, 2), name))
                self.assertIsNone(paper_for(world_of(many, 2), name))

    def test_one_who_just_gets_the_needed_words(self):
        for many in range(2, 8):
            for house in range(many):
                world = run(many, 3, ("claim", house, "ab", "joe"))
                for step in range(1, many // 2 + 1):
                    self.assertIsNone(holder_of(world, "ab"))
                    self.assertIsNone(paper_for(world, "ab"))
                    other = (house + step) % many
                    world = all_carried(world, ("ask", house, other))
                    self.assertIsNone(holder_of(world, "ab"))
                    world = all_carried(world, ("word", other, house))
                self.assertEqual(holder_of(world, "ab"), (house, 1, "joe"))
                self.assertIsNone(holder_of(world, "a"))

    def test_one_house(self):
        self.assertEqual(holder_of(run(1, 2, ("claim", 0, "ab", "joe")), "ab"), (0, 1, "joe"))
        world = run(1, 2, ("claim", 0, "cd", "sue"), ("claim", 0, "ab", "joe"))
        self.assertEqual(holder_of(world, "ab"), (0, 2, "joe"))
        self.assertEqual(holder_of(world, "cd"), (0, 1, "sue"))

    def test_the_words_just_run_out(self):
        for many in (1, 2, 3, 7):
            for term in (2, 3, 9):
                world = had_by_needed(many, term, 0, ("round",))
                for step in range(term):
                    self.assertEqual(holder_of(world, "ab"), (0, 1, "joe"))
                    self.assertIsNotNone(paper_for(world, "ab"))
                    world = done(world, ("round",))
                self.assertIsNone(holder_of(world, "ab"))
                self.assertIsNone(paper_for(world, "ab"))

    def test_too_few_of_the_words_are_renewed(self):
        world = behind(had_by_needed(3, 2, 0), ("round",), ("renew", 0, "ab"))
        self.assertEqual(holder_of(world, "ab"), (0, 1, "joe"))
        self.assertEqual(paper_for(world, "ab"), ("ab", 0, 1, "joe", ((0, 3), (1, 2))))
        late = done(world, ("round",))
        self.assertIsNone(holder_of(late, "ab"))
        self.assertIsNone(paper_for(late, "ab"))
        world = quiet_round(world)
        self.assertEqual(holder_of(world, "ab"), (0, 1, "joe"))
        self.assertEqual(paper_for(world, "ab"), ("ab", 0, 1, "joe", ((0, 3), (1, 3), (2, 3))))

    def test_words_that_ran_out_are_left_out_of_the_paper(self):
        world = behind(quiet_round(run(3, 3, ("claim", 0, "ab", "joe"))), ("renew", 0, "ab"))
        world = behind(all_carried(world, ("ask", 0, 1), ("word", 1, 0)), ("round",))
        self.assertEqual(paper_for(world, "ab"), ("ab", 0, 1, "joe", ((0, 4), (1, 4), (2, 3))))
        world = done(world, ("round",))
        self.assertEqual(holder_of(world, "ab"), (0, 1, "joe"))
        self.assertEqual(paper_for(world, "ab"), ("ab", 0, 1, "joe", ((0, 4), (1, 4))))

    def test_given_back(self):
        for many in (1, 3):
            world = done(had_by_needed(many, 3, 0), ("back", 0, "ab"))
            self.assertIsNone(holder_of(world, "ab"))
            self.assertIsNone(paper_for(world, "ab"))

    def test_claimed_anew(self):
        world = behind(had_by_needed(2, 2, 0), ("round",), ("round",), ("claim", 0, "ab", "sue"))
        self.assertIsNone(holder_of(world, "ab"))
        self.assertEqual(holder_of(quiet_round(world), "ab"), (0, 2, "sue"))

    def test_a_house_that_is_down_goes_on_having_it(self):
        world = had_by_needed(3, 3, 1)
        paper = paper_for(world, "ab")
        world = behind(world, ("fall", 1), ("fall", 2), ("round",), ("part", (1,)))
        self.assertEqual(holder_of(world, "ab"), (1, 1, "joe"))
        self.assertEqual(paper_for(world, "ab"), paper)
        self.assertTrue(paper_shows(world, paper))

    def test_each_name_by_itself(self):
        world = quiet_round(run(3, 3, ("claim", 0, "ab", "joe"), ("claim", 1, "cd", "ann"), ("claim", 0, "ef", "sue")))
        self.assertEqual([holder_of(world, name) for name in ("ab", "cd", "ef", "gh")],
                         [(0, 1, "joe"), (1, 1, "ann"), (0, 2, "sue"), None])


class PaperTest(unittest.TestCase):
    """House 1 of five has ab by the words of 0, 1, 2 and 3, to round 4; it is round 1."""

    def setUp(self):
        world = run(5, 3, ("round",), ("claim", 1, "ab", "joe"), ("claim", 4, "cd", "joe"))
        for other in (0, 2, 3):
            world = all_carried(world, ("ask", 1, other), ("word", other, 1))
        self.world = world
        self.paper = ("ab", 1, 1, "joe", ((0, 4), (1, 4), (2, 4), (3, 4)))

    def shown(self, words):
        return paper_shows(self.world, self.paper[:4] + (words,))

    def test_the_paper_of_who_has_a_name(self):
        self.assertEqual(paper_for(self.world, "ab"), self.paper)
        self.assertIs(paper_shows(self.world, self.paper), True)
        self.assertIsNone(paper_for(self.world, "cd"))

    def test_tuples_are_told(self):
        paper = paper_for(self.world, "ab")
        for part in (paper, paper[4]) + paper[4]:
            self.assertIs(part.__class__, tuple)

    def test_one_house(self):
        world = run(1, 2, ("claim", 0, "ab", "joe"))
        self.assertEqual(paper_for(world, "ab"), ("ab", 0, 1, "joe", ((0, 2),)))
        self.assertIs(paper_shows(world, ("ab", 0, 1, "joe", ((0, 2),))), True)
        self.assertIs(paper_shows(world, ("ab", 0, 1, "joe", ())), False)

    def test_words_left_out(self):
        words = self.paper[4]
        for at in range(4):
            rest = words[:at] + words[at + 1:]
            self.assertIs(self.shown(rest), True)
            for again in range(3):
                self.assertIs(self.shown(rest[:again] + rest[again + 1:]), False)
        self.assertIs(self.shown(()), False)
        self.assertIs(self.shown(words[:1]), False)

    def test_lesser_untils(self):
        for at in range(4):
            for until, shows in ((4, True), (3, True), (2, True), (1, False), (0, False), (-1, False), (-GREAT, False),
                                 (5, False), (6, False), (GREAT, False)):
                self.assertIs(self.shown(replaced(self.paper[4], at, (at, until))), shows, (at, until))
        self.assertIs(self.shown(((0, 2), (1, 2), (2, 3))), True)

    def test_words_run_out(self):
        for step in range(3):
            self.assertTrue(paper_shows(self.world, self.paper))
            self.world = done(self.world, ("round",))
        self.assertFalse(paper_shows(self.world, self.paper))

    def test_a_word_that_was_not_given(self):
        self.assertIs(self.shown(((0, 4), (1, 4), (4, 4))), False)
        self.assertIs(self.shown(self.paper[4] + ((4, 4),)), False)

    def test_a_word_of_another_claim(self):
        world = all_carried(behind(self.world, ("claim", 4, "ab", "ann")))
        self.assertIs(paper_shows(world, self.paper), True)
        for words in (((0, 4), (1, 4), (4, 4)), self.paper[4] + ((4, 4),), ((4, 4),)):
            self.assertIs(paper_shows(world, self.paper[:4] + (words,)), False)
            self.assertIs(paper_shows(world, ("ab", 4, 1, "ann", words)), False)

    def test_a_word_of_another_number_of_the_house(self):
        world = behind(self.world, ("back", 1, "ab"), ("claim", 1, "ab", "joe"))
        self.assertIs(paper_shows(world, ("ab", 1, 2, "joe", self.paper[4])), False)
        self.assertIs(paper_shows(world, self.paper), False)

    def test_a_freed_word(self):
        world = written(0, 3, [(("ask", "ab", 1, "joe", 3),), (("word", "ab", 0, 1, 3),),
                               (("word", "ab", 0, 1, 3), ("free", "ab", 0, 1))])
        self.assertIs(paper_shows(world, ("ab", 0, 1, "joe", ((1, 3), (2, 3)))), False)
        world = replaced(world, 2, replaced(world[2], 2, world[2][2][:1]))
        self.assertIs(paper_shows(world, ("ab", 0, 1, "joe", ((1, 3), (2, 3)))), True)

    def test_a_word_twice(self):
        self.assertIs(self.shown(((0, 4), (1, 4), (1, 4))), False)
        self.assertIs(self.shown(((0, 4), (1, 3), (1, 4))), False)
        self.assertIs(self.shown(((0, 4), (1, 4), (2, 4), (2, 4))), False)
        self.assertIs(self.shown(((0, 3), (0, 4), (1, 4), (2, 4))), False)

    def test_words_turned_about(self):
        self.assertIs(self.shown(((1, 4), (0, 4), (2, 4))), False)
        self.assertIs(self.shown(((2, 4), (1, 4), (0, 4))), False)
        self.assertIs(self.shown(((4, 0), (4, 1), (4, 2))), False)

    def test_another_name_house_number_or_person(self):
        for at, parts in ((0, ("a", "abc", "cd", "ba")), (1, (0, 2, 3, 4)), (2, (2, 3, GREAT)),
                          (3, ("ann", "jo", "joey"))):
            for part in parts:
                self.assertIs(paper_shows(self.world, replaced(self.paper, at, part)), False, (at, part))

    def test_parts_that_are_none(self):
        for at, parts in ((0, NOT_NAMES), (1, NOT_WHOLE + (5, -1, -4, GREAT)), (2, NOT_WHOLE + (0, -1, -GREAT)),
                          (3, NOT_NAMES), (4, STRANGE + (0, "ab", [(0, 4), (1, 4), (2, 4)]))):
            for part in parts:
                self.assertIs(paper_shows(self.world, replaced(self.paper, at, part)), False, (at, part))

    def test_truths_are_no_numbers(self):
        self.assertIs(paper_shows(self.world, ("ab", True, 1, "joe", self.paper[4])), False)
        self.assertIs(paper_shows(self.world, ("ab", 1, True, "joe", self.paper[4])), False)
        self.assertIs(self.shown(((False, 4), (1, 4), (2, 4))), False)
        self.assertIs(self.shown(((0, 4), (True, 4), (2, 4))), False)
        world = written(0, 2, self.world[2], self.world[3])
        self.assertIs(paper_shows(world, self.paper[:4] + (((0, 1), (1, 1), (2, 1)),)), True)
        self.assertIs(paper_shows(world, self.paper[:4] + (((0, True), (1, 1), (2, 1)),)), False)

    def test_words_that_are_none(self):
        for word in STRANGE + NOT_WHOLE + ([3, 4], (3,), (3, 4, 4), (3, None), (None, 4), ("3", 4), (3, "4"), (5, 4),
                                           (-1, 4), 3, "34", ((3, 4),)):
            self.assertIs(self.shown(self.paper[4][:3] + (word,)), False, word)
            self.assertIs(self.shown((word,)), False, word)

    def test_a_list_in_the_place_of_a_tuple(self):
        self.assertIs(paper_shows(self.world, list(self.paper)), False)
        self.assertIs(self.shown(list(self.paper[4])), False)
        self.assertIs(self.shown(tuple([list(word) for word in self.paper[4]])), False)

    def test_a_wrong_length(self):
        self.assertIs(paper_shows(self.world, self.paper + (0,)), False)
        self.assertIs(paper_shows(self.world, self.paper + self.paper[4:]), False)
        for length in range(5):
            self.assertIs(paper_shows(self.world, self.paper[:length]), False)
            self.assertIs(paper_shows(self.world, self.paper[length + 1:]), False)

    def test_of_anything(self):
        for thing in STRANGE + NOT_NAMES + NOT_WHOLE + ((None,) * 5, ("ab",) * 5, (0,) * 5, ((),) * 5, ([],) * 5):
            self.assertIs(paper_shows(self.world, thing), False)
            self.assertIs(paper_shows(world_of(1, 2), thing), False)

    def test_as_many_words_as_a_log_has_entries(self):
        self.assertIs(self.shown(self.paper[4] * 250), False)
        self.assertIs(self.shown(tuple((house, 4) for house in range(1000))), False)
        self.assertIs(paper_shows(self.world, self.paper * 200), False)
        self.assertIs(paper_shows(self.world, (None,) * 1000), False)

    def test_a_name_that_was_given_back(self):
        world = done(self.world, ("back", 1, "ab"))
        self.assertIs(paper_shows(world, self.paper), False)
        # The other houses still keep their words; the claim is no more.
        self.assertIs(paper_shows(world, self.paper[:4] + (((0, 4), (2, 4), (3, 4)),)), False)

    def test_another_name_given_back_does_not_matter(self):
        world = behind(self.world, ("claim", 1, "ef", "joe"), ("back", 1, "ef"), ("back", 4, "cd"))
        self.assertIs(paper_shows(world, self.paper), True)

    def test_of_a_claim_whose_words_are_still_on_their_way(self):
        """The words are given, so a paper of them is let by, though the claim has them not yet."""
        world = all_carried(run(3, 3, ("claim", 0, "ab", "joe")), ("ask", 0, 1))
        self.assertIsNone(paper_for(world, "ab"))
        self.assertIs(paper_shows(world, ("ab", 0, 1, "joe", ((0, 3), (1, 3)))), True)

    def test_of_a_renewed_claim(self):
        world = quiet_round(behind(self.world, ("round",), ("renew", 1, "ab")))
        self.assertEqual(paper_for(world, "ab"), ("ab", 1, 1, "joe", tuple((house, 5) for house in range(5))))
        self.assertIs(paper_shows(world, paper_for(world, "ab")), True)
        self.assertIs(paper_shows(world, self.paper), True)
        self.assertIs(paper_shows(self.world, paper_for(world, "ab")), False)

    def test_an_elder_claim_of_another_person(self):
        world = behind(had_by_needed(2, 2, 0), ("round",), ("round",), ("claim", 0, "ab", "sue"))
        world = quiet_round(world)
        words = ((0, 4), (1, 4))
        self.assertIs(paper_shows(world, ("ab", 0, 2, "sue", words)), True)
        self.assertIs(paper_shows(world, ("ab", 0, 2, "joe", words)), False)
        self.assertIs(paper_shows(world, ("ab", 0, 1, "joe", words)), False)

    def test_the_world_stays_as_it_was(self):
        kept = repr(self.world)
        holder_of(self.world, "ab")
        paper_for(self.world, "ab")
        paper_shows(self.world, self.paper)
        self.assertEqual(repr(self.world), kept)
        self.assertEqual(repr(self.paper), repr(paper_for(self.world, "ab")))

    def test_logs_of_hundreds_of_entries(self):
        world = world_of(3, 2)
        for times in range(60):
            world = behind(world, ("claim", 0, "ab", "joe"), ("round",))
            world = behind(quiet_round(world), ("round",))
        self.assertGreater(len(world[2][0]), 200)
        world = quiet_round(done(world, ("claim", 0, "ab", "joe")))
        self.assertEqual(holder_of(world, "ab"), (0, 61, "joe"))
        self.assertTrue(paper_shows(world, paper_for(world, "ab")))


if __name__ == "__main__":
    unittest.main()
