"""Points 22 and 23: all runs of a small world."""

import time
import unittest
from math import comb

import all_rows
from model import Model, Refused
from samples import STRANGE
from worlds_by_hand import behind, run

from onename.errors import HouseError, TooMany
from onename.holders import holder_of
from onename.runs import shortest_row, worlds_found
from onename.worlds import world_of

# Far more than is needed: it is to catch work that grows out of bounds, not a slow machine.
SECONDS = 10

CLAIM = ("claim", 0, "ab", "joe")
FALLS = [("fall", house) for house in range(7)]
NO_DEEDS = STRANGE + ("round", ["round"], ("rounds",), ("claim", 3, "ab", "joe"), ("carry", -1), ("carry", True),
                      ("part", ()), ("part", [0]), ("part", (1, 0)), (), ("claim", 0, "ab"), ("heal", 0))

# Just two thousand worlds within seven deeds of two houses.
FULL = [CLAIM, ("copy", 0), ("back", 0, "ab"), ("carry", 0), ("part", (0,)), ("lose", 0), ("fall", 1)]
FULL_COUNTS = [1, 3, 7, 20, 59, 165, 457, 1288]
# Just two thousand and one within eight deeds of five houses.
OVER = [("carry", 0), ("part", (3,)), ("part", (1,)), ("claim", 2, "cd", "joe"), ("claim", 3, "cd", "joe"), ("fall", 4),
        ("claim", 1, "cd", "joe")]
OVER_COUNTS = [1, 6, 20, 54, 120, 222, 360, 528, 690]

# Small worlds with deeds, few enough that every single row of them can be gone through.
SMALL = (
    (run(1, 2), [CLAIM, ("back", 0, "ab"), ("round",)], 5),
    (run(2, 2), [CLAIM, ("claim", 1, "ab", "ann"), ("carry", 0), ("carry", 1)], 5),
    (run(3, 2), [("carry", 1), ("carry", 0), ("claim", 1, "ab", "ann"), CLAIM], 5),
    (run(3, 3, CLAIM), [("carry", 0), ("carry", 1), ("fall", 1), ("rise", 1), ("round",)], 4),
    (run(3, 3, CLAIM, ("part", (0,))), [("heal",), ("copy", 0), ("carry", 0), ("carry", 2)], 5),
    (run(3, 2, ("claim", 2, "cd", "sue"), ("carry", 1)), [("renew", 2, "cd"), ("carry", 1), ("round",), ("lose", 0)], 4),
    (run(4, 2, CLAIM), [("carry", 0), ("carry", 0), ("carry", 2), ("part", (0, 3)), ("carry", 1)], 4),
)


def model_runs(world, deeds, most):
    """Points 22's search by the model: [(world, row)] in the order in which they are found."""
    found = {world: ()}
    edge = [world]
    for step in range(most):
        new = []
        for ahead in edge:
            for deed in deeds:
                model = Model(ahead)
                try:
                    model.do(deed)
                except Refused:
                    continue
                if model.world() not in found:
                    found[model.world()] = found[ahead] + (deed,)
                    new.append(model.world())
        edge = new
    return list(found.items())


class InTime(unittest.TestCase):
    def setUp(self):
        self.begun = time.perf_counter()

    def tearDown(self):
        self.assertLess(time.perf_counter() - self.begun, SECONDS)

    def too_many(self, function, *arguments):
        kept = repr(arguments)
        with self.assertRaises(HouseError) as caught:
            function(*arguments)
        self.assertIs(caught.exception.__class__, TooMany)
        self.assertEqual(repr(arguments), kept)


class WorldsFoundTest(InTime):
    def test_no_deeds(self):
        for many in (1, 3, 7):
            for most in (0, 1, 5, 12):
                self.assertEqual(worlds_found(world_of(many, 3), [], most), [1] + [0] * most)

    def test_a_most_of_nought(self):
        for deeds in ([("round",)], FULL, OVER, list(NO_DEEDS[:10])):
            self.assertEqual(worlds_found(world_of(5, 3), deeds, 0), [1])

    def test_one_deed(self):
        for most in (1, 2, 12):
            self.assertEqual(worlds_found(world_of(3, 3), [("round",)], most), [1] * (most + 1))
            self.assertEqual(worlds_found(world_of(3, 3), [CLAIM], most), [1, 1] + [0] * (most - 1))
            self.assertEqual(worlds_found(world_of(3, 3), [("fall", 0)], most), [1, 1] + [0] * (most - 1))

    def test_a_deed_that_changes_nothing(self):
        for most in (1, 12):
            self.assertEqual(worlds_found(world_of(3, 3), [("heal",)], most), [1] + [0] * most)
        self.assertEqual(worlds_found(run(3, 3, ("part", (0,))), [("part", (0,))], 3), [1, 0, 0, 0])

    def test_worlds_that_were_ahead_are_not_new(self):
        self.assertEqual(worlds_found(world_of(3, 3), [("fall", 0), ("rise", 0)], 4), [1, 1, 0, 0, 0])
        self.assertEqual(worlds_found(world_of(3, 3), [("part", (0,)), ("part", (1,)), ("heal",)], 4), [1, 2, 0, 0, 0])

    def test_seven_and_ten_deeds(self):
        binomials = [comb(7, length) for length in range(8)]
        self.assertEqual(worlds_found(world_of(7, 3), FALLS, 12), binomials + [0] * 5)
        ten = FALLS + [("rise", 6), ("heal",), ("carry", 0)]
        self.assertEqual(worlds_found(world_of(7, 3), ten, 12), binomials + [0] * 5)
        self.assertEqual(worlds_found(world_of(7, 3), ten, 3), binomials[:4])
        rounds = [sum(binomials[:length + 1]) for length in range(13)]
        self.assertEqual(worlds_found(world_of(7, 3), FALLS + [("round",)], 12), rounds)

    def test_the_same_deed_twice(self):
        self.assertEqual(worlds_found(world_of(3, 3), [("round",), ("round",)], 3), [1, 1, 1, 1])
        self.assertEqual(worlds_found(world_of(7, 3), FALLS[:5] * 2, 5), [1, 5, 10, 10, 5, 1])

    def test_two_orders_of_claims_are_two_worlds(self):
        deeds = [CLAIM, ("claim", 0, "cd", "joe")]
        self.assertEqual(worlds_found(world_of(1, 3), deeds, 3), [1, 2, 2, 0])
        self.assertEqual(worlds_found(world_of(1, 3), [CLAIM, ("claim", 0, "ab", "ann")], 3), [1, 2, 0, 0])

    def test_refused_always(self):
        always = [("carry", 9), ("rise", 0), ("renew", 1, "ab"), ("back", 2, "cd")]
        self.assertEqual(worlds_found(world_of(3, 3), always, 12), [1] + [0] * 12)
        self.assertEqual(worlds_found(world_of(3, 3), always + [("round",)], 12), [1] * 13)

    def test_refused_at_first(self):
        self.assertEqual(worlds_found(world_of(2, 3), [("lose", 0), CLAIM], 3), [1, 1, 1, 0])
        self.assertEqual(worlds_found(world_of(2, 3), [("renew", 0, "ab"), CLAIM], 2), [1, 1, 1])
        self.assertEqual(worlds_found(world_of(2, 3), [("rise", 1), ("fall", 1), ("round",)], 3), [1, 2, 2, 2])

    def test_refused_later(self):
        self.assertEqual(worlds_found(world_of(1, 2), [CLAIM, ("round",)], 4), [1, 2, 3, 4, 6])
        self.assertEqual(worlds_found(run(2, 3, CLAIM), [("lose", 0)], 3), [1, 1, 0, 0])

    def test_things_that_are_no_deeds(self):
        for at in range(0, len(NO_DEEDS), 9):
            things = list(NO_DEEDS[at:at + 9])
            self.assertEqual(worlds_found(world_of(3, 3), things, 12), [1] + [0] * 12)
            self.assertEqual(worlds_found(world_of(3, 3), things + [("round",)], 2), [1, 1, 1])
            self.assertEqual(worlds_found(world_of(3, 3), [("round",)] + things, 2), [1, 1, 1])

    def test_from_another_world_than_the_begin(self):
        world = run(3, 3, CLAIM, ("carry", 0), ("fall", 2))
        self.assertEqual(worlds_found(world, [("carry", 0), ("carry", 1)], 3), [1, 1, 1, 0])
        self.assertEqual(worlds_found(world, [("rise", 2), ("carry", 0)], 3), [1, 1, 1, 1])
        self.assertEqual(worlds_found(world, [("rise", 2), ("lose", 0)], 3), [1, 2, 2, 1])

    def test_by_every_row(self):
        for world, deeds, most in SMALL:
            for length in range(most + 1):
                self.assertEqual(worlds_found(world, deeds, length), all_rows.counted(world, deeds, length), deeds)
            self.assertEqual(worlds_found(world, deeds[::-1], most), worlds_found(world, deeds, most))

    def test_just_two_thousand(self):
        self.assertEqual(sum(FULL_COUNTS), 2000)
        self.assertEqual(worlds_found(world_of(2, 2), FULL, 7), FULL_COUNTS)
        self.assertEqual(worlds_found(world_of(2, 2), FULL[::-1], 7), FULL_COUNTS)
        self.assertEqual(worlds_found(world_of(2, 2), FULL, 6), FULL_COUNTS[:-1])
        self.assertEqual(len(model_runs(world_of(2, 2), FULL, 7)), 2000)

    def test_two_thousand_and_one(self):
        self.assertEqual(len(model_runs(world_of(5, 3), OVER, 8)), 2001)
        self.too_many(worlds_found, world_of(5, 3), OVER, 8)
        self.too_many(worlds_found, world_of(5, 3), OVER[::-1], 8)
        self.assertEqual(worlds_found(world_of(5, 3), OVER, 7), OVER_COUNTS[:-1])

    def test_far_more(self):
        self.too_many(worlds_found, world_of(2, 2), FULL, 8)
        self.too_many(worlds_found, world_of(2, 2), FULL, 12)
        self.too_many(worlds_found, world_of(5, 3), OVER, 12)
        self.too_many(worlds_found, world_of(7, 9), FALLS + [("part", (0,)), ("part", (1,)), ("round",)], 12)

    def test_the_lists_are_the_askers_own(self):
        deeds = [("round",), ("fall", 0), ["no", ["deed"]]]
        kept = repr(deeds)
        first = worlds_found(world_of(3, 3), deeds, 3)
        self.assertIs(first.__class__, list)
        self.assertEqual(repr(deeds), kept)
        first[0] = 7
        first.append(7)
        second = worlds_found(world_of(3, 3), deeds, 3)
        self.assertEqual(second, [1, 2, 2, 2])
        deeds.clear()
        self.assertEqual(second, [1, 2, 2, 2])
        self.assertEqual(worlds_found(world_of(3, 3), deeds, 3), [1, 0, 0, 0])


class ShortestRowTest(InTime):
    def had(self):
        return run(3, 3, CLAIM, ("carry", 0), ("carry", 1))

    def test_at_once(self):
        for deeds in ([], [("round",)], [("back", 0, "ab")], [None]):
            for most in (0, 1, 12):
                self.assertEqual(shortest_row(self.had(), deeds, most, "ab", 0), [])

    def test_another_house_or_name(self):
        for house, name in ((1, "ab"), (2, "ab"), (0, "cd"), (0, "a")):
            self.assertIsNone(shortest_row(self.had(), [("round",)], 12, name, house))

    def test_a_row(self):
        deeds = [("round",), ("carry", 1), ("carry", 0), CLAIM]
        row = [CLAIM, ("carry", 1), ("carry", 1)]
        for most in (3, 4, 5):
            self.assertEqual(shortest_row(world_of(3, 3), deeds, most, "ab", 0), row)
        self.assertEqual(holder_of(behind(world_of(3, 3), *row), "ab"), (0, 1, "joe"))

    def test_the_first_of_several_by_their_places(self):
        self.assertEqual(shortest_row(world_of(3, 3), [CLAIM, ("carry", 0), ("carry", 1)], 5, "ab", 0),
                         [CLAIM, ("carry", 0), ("carry", 1)])
        self.assertEqual(shortest_row(world_of(3, 3), [CLAIM, ("carry", 1), ("carry", 0)], 5, "ab", 0),
                         [CLAIM, ("carry", 1), ("carry", 1)])
        other = ("claim", 0, "ab", "ann")
        self.assertEqual(shortest_row(world_of(1, 3), [CLAIM, other], 5, "ab", 0), [CLAIM])
        self.assertEqual(shortest_row(world_of(1, 3), [other, CLAIM], 5, "ab", 0), [other])
        self.assertEqual(shortest_row(world_of(1, 3), [CLAIM, CLAIM], 5, "ab", 0), [CLAIM])

    def test_a_shorter_row_ahead_of_an_earlier_place(self):
        world = run(1, 2, CLAIM)
        deeds = [("round",), ("back", 0, "ab"), ("claim", 0, "ab", "ann"), ("claim", 0, "cd", "ann")]
        self.assertEqual(shortest_row(world, deeds, 5, "cd", 0), [("claim", 0, "cd", "ann")])
        world = run(2, 2, CLAIM, ("carry", 0), ("carry", 0), ("back", 0, "ab"))
        deeds = [("round",), ("carry", 0), ("carry", 2), ("claim", 1, "ab", "sue")]
        # House 1 has its word back by one letter, which is sooner than by two rounds.
        self.assertEqual(shortest_row(world, deeds, 6, "ab", 1), all_rows.first_row(world, deeds, 6, "ab", 1))

    def test_none_within_so_many(self):
        deeds = [CLAIM, ("carry", 0), ("carry", 1)]
        for most in (0, 1, 2):
            self.assertIsNone(shortest_row(world_of(3, 3), deeds, most, "ab", 0))
        self.assertEqual(len(shortest_row(world_of(3, 3), deeds, 3, "ab", 0)), 3)
        self.assertIsNone(shortest_row(world_of(3, 3), [], 12, "ab", 0))
        self.assertIsNone(shortest_row(world_of(3, 3), [CLAIM, ("round",)], 12, "ab", 0))

    def test_a_name_that_nobody_claims(self):
        for world, deeds, most in SMALL:
            for house in range(len(world[2])):
                self.assertIsNone(shortest_row(world, deeds, most, "nobody", house))

    def test_no_deeds_and_refused_ones_stand_in_no_row(self):
        for thing in NO_DEEDS + (("carry", 7), ("rise", 1), ("renew", 1, "ab")):
            deeds = [thing, CLAIM, thing, ("carry", 0), thing, ("carry", 1), thing]
            self.assertEqual(shortest_row(world_of(3, 3), deeds, 4, "ab", 0), [CLAIM, ("carry", 0), ("carry", 1)])

    def test_by_every_row(self):
        rows = 0
        for world, deeds, most in SMALL:
            for order in (deeds, deeds[::-1], deeds[1:] + deeds[:1]):
                for house in range(len(world[2])):
                    for name in ("ab", "cd"):
                        row = all_rows.first_row(world, order, most, name, house)
                        self.assertEqual(shortest_row(world, order, most, name, house), row)
                        rows += row is not None
        self.assertGreater(rows, 15)

    def test_ahead_of_the_two_thousand_and_first(self):
        """In runs of far more worlds: found where one is among the first two thousand, TooMany where none is."""
        told = {"row": 0, "refusal": 0}
        for world, deeds, most, name in ((world_of(2, 2), FULL, 8, "ab"), (world_of(5, 3), OVER, 9, "cd"),
                                         (run(3, 2), [CLAIM, ("claim", 1, "ab", "ann"), ("carry", 0), ("carry", 1),
                                                      ("carry", 2), ("copy", 0), ("round",)], 6, "ab")):
            found = model_runs(world, deeds, most)
            self.assertGreater(len(found), 2001)
            for house in range(len(world[2])):
                rows = [row for behind, row in found[:2000]
                        if [holder[0] for holder in Model(behind).holders(name)] == [house]]
                if rows:
                    told["row"] += 1
                    self.assertEqual(shortest_row(world, deeds, most, name, house), list(rows[0]))
                elif [holder[0] for holder in Model(found[2000][0]).holders(name)] != [house]:
                    told["refusal"] += 1
                    self.too_many(shortest_row, world, deeds, most, name, house)
        self.assertTrue(all(told.values()), told)

    def test_the_two_thousandth_is_looked_at(self):
        """Twelve letters are to be carried; the place of the carry in the list makes it the last world of all."""
        world = run(7, 9, CLAIM, ("carry", 0), ("carry", 0), ("lose", 1), ("lose", 1), ("lose", 1))
        world = behind(world, *[("copy", 1)] * 9 + [("carry", 0)])
        self.assertEqual(len(world[6]), 12)
        early = [("fall", 1), ("fall", 2), ("fall", 3), ("part", (4,))]
        late = [("part", (5,)), ("part", (6,)), ("round",)]
        row = [("carry", 0)] * 12
        found = model_runs(world, early + row[:1] + late, 12)
        self.assertGreater(len(found), 2001)
        self.assertEqual(found[1999][1], tuple(row))
        self.assertEqual(shortest_row(world, early + row[:1] + late, 12, "ab", 0), row)
        self.too_many(worlds_found, world, early + row[:1] + late, 12)
        self.too_many(shortest_row, world, early + late + row[:1], 12, "ab", 0)
        self.too_many(shortest_row, world, early + row[:1] + late, 12, "ab", 1)
        self.assertIsNone(shortest_row(world, early + row[:1] + late, 11, "ab", 0))

    def test_too_many(self):
        self.too_many(shortest_row, world_of(5, 3), OVER, 8, "nobody", 0)
        self.too_many(shortest_row, world_of(2, 2), FULL, 12, "nobody", 1)
        self.assertIsNone(shortest_row(world_of(5, 3), OVER, 7, "nobody", 0))

    def test_no_row_with_two_thousand(self):
        for house in (0, 1):
            self.assertIsNone(shortest_row(world_of(2, 2), FULL, 7, "nobody", house))
        self.assertIsNone(shortest_row(world_of(2, 2), FULL, 7, "ab", 1))
        self.assertEqual(shortest_row(world_of(2, 2), FULL, 7, "ab", 0), [CLAIM, ("carry", 0), ("carry", 0)])

    def test_the_lists_are_the_askers_own(self):
        deeds = [CLAIM, ("carry", 0), ("carry", 1), ["no", ["deed"]]]
        kept = repr(deeds)
        first = shortest_row(world_of(3, 3), deeds, 4, "ab", 0)
        self.assertIs(first.__class__, list)
        self.assertEqual(repr(deeds), kept)
        first.clear()
        self.assertEqual(shortest_row(world_of(3, 3), deeds, 4, "ab", 0), [CLAIM, ("carry", 0), ("carry", 1)])
        empty = shortest_row(self.had(), deeds, 4, "ab", 0)
        empty.append(("round",))
        self.assertEqual(shortest_row(self.had(), deeds, 4, "ab", 0), [])
        self.assertIsNot(shortest_row(self.had(), [], 4, "ab", 0), shortest_row(self.had(), [], 4, "ab", 0))


if __name__ == "__main__":
    unittest.main()
