"""Yards and logs as great as point 2 lets them be are worked through in a short time."""

import time
import unittest

from worlds_by_hand import behind

from onename.holders import holder_of, paper_for, paper_shows
from onename.looks import ages_of, look_up
from onename.quiet import barred_for, claimed_surely, quiet_round, quiet_rounds
from onename.stories import first_wrong, spells_of, story_of
from onename.texts import read_log, show_log
from onename.worlds import done, world_of

# Far more than is needed: it is to catch work that grows out of bounds, not a slow machine.
SECONDS = 15


class SizeTest(unittest.TestCase):
    def setUp(self):
        self.begun = time.perf_counter()

    def tearDown(self):
        self.assertLess(time.perf_counter() - self.begun, SECONDS)

    def long_logs(self):
        """House 0 of seven claims and gives back ab till its log has near a thousand entries."""
        world = world_of(7, 9)
        while len(world[2][0]) < 980:
            world = quiet_round(done(world, ("claim", 0, "ab", "joe")))
            world = quiet_round(done(world, ("back", 0, "ab")))
        return world

    def test_a_thousand_copies_and_a_long_log(self):
        world = done(self.long_logs(), ("claim", 0, "ab", "sue"))
        while len(world[6]) < 1000:
            world = done(world, ("copy", len(world[6]) - 6))
        after = quiet_round(world)
        self.assertEqual(after[6], ())
        self.assertEqual(holder_of(after, "ab")[2], "sue")
        self.assertTrue(paper_shows(after, paper_for(after, "ab")))
        self.assertEqual(len(paper_for(after, "ab")[4]), 7)
        self.assertEqual(barred_for(world, "ab"), 9)
        self.assertEqual(ages_of(after, "ab"), [1] * 7)

    def test_a_thousand_asks_of_many_names(self):
        names = [first + second for first in "abcdefghijklmnopqrstuvwxyz" for second in "abcdefg"][:166]
        world = world_of(7, 9)
        for at, name in enumerate(names):
            world = done(world, ("claim", at % 7, name, "joe"))
        self.assertEqual(len(world[6]), 996)
        after, number = claimed_surely(world, 3, "ab", "sue")
        self.assertEqual(holder_of(after, "ab"), (3, number, "sue"))
        after = quiet_round(world)
        self.assertEqual([holder_of(after, name) for name in names],
                         [(at % 7, at // 7 + 1, "joe") for at in range(166)])
        self.assertEqual([notice[0] for notice in after[3][5]], sorted(names))
        self.assertEqual(look_up(after, 5, names[100], 1), ("joe", 100 % 7, 0))

    def test_a_thousand_letters_that_cannot_be_carried(self):
        world = behind(world_of(7, 9), ("fall", 1), ("part", (0,)), ("claim", 0, "ab", "joe"))
        while len(world[6]) < 990:
            world = done(world, ("copy", 0))
        world = done(world, ("claim", 2, "cd", "ann"))
        after = quiet_rounds(world, 20)
        self.assertEqual(len(after[6]), 994)
        self.assertEqual(after[0], 20)
        self.assertEqual(claimed_surely(after, 6, "ab", "sue")[1], 1)

    def test_stories_of_four_hundred_deeds_of_many_names(self):
        names = [first + second for first in "abcdefghijklmnopqrstuvwxyz" for second in "abcdefg"]
        deeds = [("claim", at % 3, names[at], "joe") for at in range(100)] + [("carry", 0)] * 300
        story = story_of(3, 9, deeds)
        self.assertEqual(len(story[-1][1]), 50)
        self.assertIsNone(first_wrong(3, 9, story))
        self.assertEqual(first_wrong(3, 9, story[:-1] + [(("carry", 0), story[-1][1][:-1])]), 399)
        self.assertEqual(len(spells_of(3, 9, deeds)), 50)
        alone = [("claim", 0, name, "joe") for name in names] + [("back", 0, name) for name in names]
        self.assertEqual(spells_of(1, 9, alone), [(name, 0, at + 1, "joe", at + 1, at + 183)
                                                  for at, name in enumerate(names)])

    def test_long_logs_as_texts(self):
        for log in self.long_logs()[2]:
            self.assertEqual(read_log(7, show_log(log)), log)


if __name__ == "__main__":
    unittest.main()
