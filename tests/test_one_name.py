"""Point 3 over drawn runs and over all short runs: whatever comes late, twice, out of order or not at all."""

import unittest

from drawing import Drawing, any_deed
from model import Model, Refused

from onename.errors import HouseError
from onename.holders import holder_of, paper_for, paper_shows
from onename.logs import is_log, word_in
from onename.looks import ages_of, look_up
from onename.quiet import barred_for, claimed_surely, quiet_round, quiet_rounds
from onename.worlds import done, world_of

NAMES = ("ab", "cd")
GREAT = 10 ** 29


def fullest_papers(world, name):
    """For each claim ever asked for, the paper of all words that the houses keep to it: no paper shows more."""
    papers = []
    for house, log in enumerate(world[2]):
        for number, person in sorted({entry[2:4] for entry in log if entry[:2] == ("ask", name)}):
            words = [(giver, word_in(other, name)) for giver, other in enumerate(world[2])]
            kept = tuple((giver, word[2]) for giver, word in words if word is not None and word[:2] == (house, number))
            papers.append((name, house, number, person, kept))
    return papers


class Watched:
    """A run in which every deed is looked at."""

    def __init__(self, test, many, term):
        self.test = test
        self.world = world_of(many, term)
        self.model = Model(self.world)
        self.papers = []
        self.had = set()
        self.told = {}

    def do(self, deed):
        """Do it, in the world and in the model; tells whether it was done."""
        try:
            self.model.do(deed)
            refusal = None
        except Refused as error:
            refusal = str(error)
        ahead = self.world
        kept = repr(ahead)
        try:
            self.world = done(ahead, deed)
            self.test.assertIsNone(refusal, deed)
        except HouseError as error:
            self.test.assertEqual(error.__class__.__name__, refusal, deed)
        self.test.assertEqual(repr(ahead), kept, deed)
        self.look()
        return refusal is None

    def look(self):
        self.test.assertEqual(self.world, self.model.world())
        for log in self.world[2]:
            self.test.assertTrue(is_log(len(self.world[2]), log))
        for name in NAMES:
            self.look_at_holders(name)
            self.look_at_papers(name)
            self.look_at_look_ups(name)
            self.test.assertEqual(barred_for(self.world, name), self.model.barred(name))
            self.test.assertLessEqual(barred_for(self.world, name), self.world[1])

    def look_at_holders(self, name):
        holders = self.model.holders(name)
        self.test.assertLessEqual(len(holders), 1, self.world)
        self.test.assertEqual(holder_of(self.world, name), holders[0] if holders else None)
        self.test.assertEqual(paper_for(self.world, name), self.model.paper(name))
        for house, number, person in holders:
            self.had.add((name, person, house, self.world[0]))

    def look_at_papers(self, name):
        paper = paper_for(self.world, name)
        if paper is not None:
            self.test.assertTrue(paper_shows(self.world, paper))
            if paper not in self.papers:
                self.papers.append(paper)
        shown = set()
        for paper in self.papers[-8:] + fullest_papers(self.world, name):
            if paper[0] == name:
                self.test.assertEqual(paper_shows(self.world, paper), self.model.shows(paper), paper)
                if paper_shows(self.world, paper):
                    shown.add(paper[:4])
        self.test.assertLessEqual(len(shown), 1, self.world)
        for claim in shown:
            self.test.assertIn(holder_of(self.world, name), (None, claim[1:]))

    def look_at_look_ups(self, name):
        self.test.assertEqual(ages_of(self.world, name), self.model.ages(name))
        for house in range(len(self.world[2])):
            if house not in self.world[4]:
                found = look_up(self.world, house, name, GREAT)
                self.test.assertTrue(found is None or (name,) + found in self.had, (found, self.world))


class Drawn(Watched):
    """A run whose deeds are drawn."""

    def __init__(self, test, seed, many, term):
        super().__init__(test, many, term)
        self.drawing = Drawing(seed)

    def deed(self, names):
        """Any deed; claims and renewals of these names only."""
        return any_deed(self.drawing, self.world, NAMES, names)

    def go(self, steps, names):
        for step in range(steps):
            deed = self.deed(names)
            if deed[0] == "copy" and len(self.world[6]) > 60:
                deed = ("lose", deed[1])
            self.do(deed)


class DrawnRunsTest(unittest.TestCase):
    def runs(self, seeds, steps):
        for seed in seeds:
            run = Drawn(self, seed, seed % 7 + 1, (2, 3, 4, 9)[seed // 7 % 4])
            run.go(steps, NAMES)
            yield run

    def test_one_at_most_has_a_name(self):
        held = [0] * 8
        noticed = 0
        for run in self.runs(range(112), 90):
            held[len(run.world[2])] += len(run.had)
            noticed += len([house for house in run.world[3] if house])
        # The runs are of use only where names are had and look-ups tell something.
        self.assertTrue(all(times > 10 for times in held[1:]), held)
        self.assertGreater(noticed, 40)

    def test_long_runs(self):
        held = [len(run.had) for run in self.runs(range(217, 224), 380)]
        self.assertGreater(sum(held), 40, held)

    def test_free_behind_as_many_rounds_as_the_term(self):
        for run in self.runs(range(300, 356), 50):
            end = run.world[0] + run.world[1]
            while run.world[0] < end:
                now, barred = run.world[0], barred_for(run.world, "ab")
                run.go(6, ("cd",))
                run.do(("round",))
                self.assertLessEqual(barred_for(run.world, "ab"), max(barred - (run.world[0] - now), 0))
            self.assertIsNone(holder_of(run.world, "ab"))
            self.assertEqual(barred_for(run.world, "ab"), 0)
            self.claim_among_the_needed(run)

    def claim_among_the_needed(self, run):
        """A claim whose letters go to and come from the needed houses alone is told yes, at once."""
        many = len(run.world[2])
        house = run.drawing.below(many)
        near = [other % many for other in range(house, house + many // 2 + 1)]
        run.do(("heal",))
        for other in near:
            run.do(("rise", other))
        self.assertTrue(run.do(("claim", house, "ab", "sue")))
        number = run.model.claim(house, "ab")[0]
        for other in near[1:]:
            for kind, sender, to in (("ask", house, other), ("word", other, house)):
                letters = [letter[:5] for letter in run.world[6]]
                run.do(("carry", letters.index((kind, sender, to, "ab", number))))
        self.assertEqual(holder_of(run.world, "ab"), (house, number, "sue"))

    def test_quiet_rounds_and_the_sure_claim(self):
        for run in self.runs(range(400, 512), 40):
            world, model = run.world, Model(run.world)
            self.assertEqual(quiet_rounds(world, 0), world)
            for rounds in range(1, 4):
                model.quiet_round()
                self.assertEqual(quiet_rounds(run.world, rounds), model.world())
                world = quiet_round(world)
                self.assertEqual(world, model.world())
            for house in range(len(world[2])):
                model = Model(run.world)
                number = model.claim_surely(house, "ab", "sue")
                told = claimed_surely(run.world, house, "ab", "sue")
                self.assertEqual(told, (model.world(), number))
                self.assertEqual(holder_of(told[0], "ab"), (house, number, "sue"))


class AllShortRunsTest(unittest.TestCase):
    """Every run of small worlds, up to some number of deeds."""

    def worlds(self, many, term, deeds, most):
        """All worlds that so many of these deeds lead to, each once."""
        found = {world_of(many, term): True}
        edge = list(found)
        for step in range(most):
            new = []
            for world in edge:
                for deed in deeds:
                    try:
                        other = done(world, deed)
                    except HouseError:
                        continue
                    if other not in found:
                        found[other] = True
                        new.append(other)
            edge = new
        return list(found)

    def look(self, worlds):
        """One at most has the name in each; tells in how many somebody has it."""
        held = 0
        for world in worlds:
            holders = Model(world).holders("ab")
            self.assertLessEqual(len(holders), 1, world)
            self.assertEqual([holder_of(world, "ab")], holders or [None])
            shown = {paper[:4] for paper in fullest_papers(world, "ab") if paper_shows(world, paper)}
            self.assertLessEqual(len(shown), 1, world)
            held += len(holders)
        return held

    def test_two_claims_at_three_houses(self):
        deeds = [("claim", 0, "ab", "joe"), ("claim", 1, "ab", "ann"), ("back", 0, "ab"), ("carry", 0), ("carry", 1),
                 ("carry", 2), ("round",)]
        self.assertGreater(self.look(self.worlds(3, 2, deeds, 6)), 500)

    def test_copies_and_losses_at_two_houses(self):
        deeds = [("claim", 0, "ab", "joe"), ("claim", 1, "ab", "ann"), ("renew", 0, "ab"), ("back", 0, "ab"),
                 ("carry", 0), ("carry", 1), ("copy", 0), ("lose", 0), ("round",)]
        self.assertGreater(self.look(self.worlds(2, 2, deeds, 6)), 200)

    def test_partings_and_falls_at_three_houses(self):
        deeds = [("claim", 0, "ab", "joe"), ("claim", 2, "ab", "ann"), ("part", (0, 1)), ("heal",), ("fall", 1),
                 ("rise", 1), ("carry", 0), ("carry", 2), ("round",)]
        self.assertGreater(self.look(self.worlds(3, 2, deeds, 6)), 100)


if __name__ == "__main__":
    unittest.main()
