"""Points 1 to 3 over the whole program: by the desk, by stories and spells, and by all runs of small worlds."""

import time
import unittest

from drawing import PERSONS, Drawing, any_deed
from model import Model, Refused

from onename.desk import Desk
from onename.errors import HouseError
from onename.holders import holder_of, holders_in, paper_for, paper_shows
from onename.looks import look_up
from onename.quiet import barred_for, claimed_surely, quiet_rounds
from onename.runs import shortest_row, worlds_found
from onename.stories import first_wrong, spells_of, story_of
from onename.texts import read_deed, read_log, show_deed, show_log
from onename.worlds import done, world_of

NAMES = ("ab", "cd", "ef")
# Far more than is needed: it is to catch work that grows out of bounds, not a slow machine.
SECONDS = 10


def spoken(parts):
    return "none" if parts is None else " ".join(map(str, parts))


class Remembering(Model):
    """A model that remembers who had which name in which round, within quiet rounds too."""

    def __init__(self, world):
        super().__init__(world)
        self.had = set()

    def do(self, deed):
        super().do(deed)
        for name in NAMES:
            self.had.update((name, person, house, self.now) for house, number, person in self.holders(name))


class DrawnDesk:
    """A desk that is told drawn rows, beside a world and the model, to which the same is done."""

    def __init__(self, test, seed, many, term):
        self.test = test
        self.drawing = Drawing(seed)
        self.desk = Desk()
        self.test.assertEqual(self.desk.say(f"houses {many} {term}"), "ok")
        self.many, self.term = many, term
        self.world = world_of(many, term)
        self.model = Remembering(self.world)

    def step(self):
        chance = self.drawing.below(40)
        if chance == 0:
            self.say_quiet(self.drawing.below(4))
        elif chance == 1:
            self.say_sure(self.drawing.below(self.many), self.drawing.one_of(NAMES), self.drawing.one_of(PERSONS))
        else:
            self.say_deed(any_deed(self.drawing, self.world, NAMES, NAMES))
        self.look()

    def say_deed(self, deed):
        text = show_deed(deed)
        self.test.assertEqual(read_deed(self.many, text), deed)
        try:
            self.model.do(deed)
        except Refused as refusal:
            for say in (lambda: self.desk.say(text), lambda: done(self.world, deed)):
                with self.test.assertRaises(HouseError) as caught:
                    say()
                self.test.assertEqual(caught.exception.__class__.__name__, str(refusal))
            return
        self.test.assertEqual(self.desk.say(text), "ok")
        self.world = done(self.world, deed)

    def say_quiet(self, rounds):
        self.test.assertEqual(self.desk.say(f"quiet {rounds}"), "ok")
        self.world = quiet_rounds(self.world, rounds)
        for step in range(rounds):
            self.model.quiet_round()

    def say_sure(self, house, name, person):
        number = self.model.claim_surely(house, name, person)
        self.test.assertEqual(self.desk.say(f"sure {house} {name} {person}"), str(number))
        self.world = claimed_surely(self.world, house, name, person)[0]
        self.test.assertEqual(self.desk.say("who " + name), f"{house} {number} {person}")

    def look(self):
        """What the desk answers is what the stages tell of the world."""
        self.test.assertEqual(self.world, self.model.world())
        self.test.assertEqual(self.desk.say("now"), str(self.world[0]))
        self.test.assertEqual(self.desk.say("yard"), str(len(self.world[6])))
        for house, log in enumerate(self.world[2]):
            text = self.desk.say(f"log {house}")
            self.test.assertEqual(text, show_log(log))
            self.test.assertEqual(read_log(self.many, text), log)
        for name in NAMES:
            self.look_at(name)

    def look_at(self, name):
        holders = self.model.holders(name)
        self.test.assertLessEqual(len(holders), 1)
        self.test.assertEqual(self.desk.say("who " + name), spoken(holders[0] if holders else None))
        self.test.assertEqual(holder_of(self.world, name), holders[0] if holders else None)
        paper = paper_for(self.world, name)
        words = None if paper is None else [f"{house}:{until}" for house, until in paper[4]]
        self.test.assertEqual(self.desk.say("paper " + name), spoken(words))
        self.test.assertTrue(paper is None or paper_shows(self.world, paper))
        self.test.assertEqual(self.desk.say("barred " + name), str(barred_for(self.world, name)))
        for house in range(self.many):
            self.look_up(house, name, self.drawing.below(5))

    def look_up(self, house, name, age):
        row = f"look {house} {name} {age}"
        if house in self.world[4]:
            with self.test.assertRaises(HouseError) as caught:
                self.desk.say(row)
            self.test.assertEqual(caught.exception.__class__.__name__, "Down")
            return
        told = look_up(self.world, house, name, age)
        self.test.assertEqual(told, self.model.look(house, name, age))
        self.test.assertEqual(self.desk.say(row), spoken(told))
        self.test.assertTrue(told is None or (name,) + told in self.model.had, told)


class DeskRunsTest(unittest.TestCase):
    def test_drawn_rows(self):
        held = [0] * 8
        for seed in range(56):
            run = DrawnDesk(self, seed, seed % 7 + 1, (2, 3, 5, 9)[seed // 7 % 4])
            for step in range(60):
                run.step()
            held[run.many] += len(run.model.had)
        self.assertTrue(all(times > 10 for times in held[1:]), held)

    def test_none_is_barred_for_ever(self):
        """From any world, rounds alone and then one claim whose letters are carried: it is told yes."""
        for seed in range(200, 228):
            run = DrawnDesk(self, seed, seed % 7 + 1, (2, 3, 9)[seed % 3])
            for step in range(40):
                run.step()
            for deed in [("heal",)] + [("rise", house) for house in run.world[4]]:
                run.say_deed(deed)
            for step in range(run.term):
                run.say_deed(("round",))
            self.assertEqual(run.desk.say("barred ab"), "0")
            self.assertEqual(run.desk.say("who ab"), "none")
            house = run.drawing.below(run.many)
            run.say_deed(("claim", house, "ab", "sue"))
            run.say_quiet(1)
            run.look()
            self.assertEqual(run.desk.say("who ab").split()[::2], [str(house), "sue"])


class StoryRunsTest(unittest.TestCase):
    def deeds(self, seed, many, term):
        drawing = Drawing(seed)
        model = Model(world_of(many, term))
        deeds = []
        for step in range(150):
            deeds.append(any_deed(drawing, model.world(), NAMES, NAMES))
            try:
                model.do(deeds[-1])
            except Refused:
                pass
        return deeds

    def look_at_spells(self, spells, moments):
        """No two spells of one name have a moment in common; tells who has it at each moment."""
        had = [{} for moment in range(moments + 1)]
        for name, house, number, person, begin, end in spells:
            self.assertTrue(1 <= begin and (end is None or begin < end <= moments))
            for moment in range(begin, moments + 1 if end is None else end):
                self.assertNotIn(name, had[moment])
                had[moment][name] = (name, house, person)
        return had

    def test_stories_and_spells(self):
        told = 0
        for seed in range(42):
            many, term = seed % 7 + 1, (2, 4, 9)[seed // 7 % 3]
            deeds = self.deeds(seed, many, term)
            story, spells = story_of(many, term, deeds), spells_of(many, term, deeds)
            self.assertEqual((story_of(many, term, deeds), spells_of(many, term, deeds)), (story, spells))
            self.assertIsNone(first_wrong(many, term, story))
            had = self.look_at_spells(spells, len(deeds))
            for at, (deed, holders) in enumerate(story, start=1):
                if isinstance(holders, str):
                    self.assertEqual(had[at], had[at - 1])
                else:
                    self.assertEqual(holders, tuple(had[at][name] for name in sorted(had[at])))
                    self.assertEqual(len({name for name, house, person in holders}), len(holders))
            told += len(spells)
        self.assertGreater(told, 60)

    def test_the_story_that_the_desk_tells(self):
        for seed in range(60, 74):
            many, term = seed % 7 + 1, (2, 5)[seed // 7 % 2]
            desk = Desk()
            desk.say(f"houses {many} {term}")
            for deed, told in story_of(many, term, self.deeds(seed, many, term)):
                try:
                    self.assertEqual(desk.say(show_deed(deed)), "ok")
                except HouseError as error:
                    self.assertEqual(error.__class__.__name__, told)
                    continue
                who = [(name, desk.say("who " + name).split()) for name in NAMES]
                self.assertEqual(told, tuple((name, int(words[0]), words[2]) for name, words in who if words != ["none"]))


class AllRunsTest(unittest.TestCase):
    """Small worlds, with as many deeds as keep below two thousand worlds."""

    SMALL = (
        (1, 2, [("claim", 0, "ab", "joe"), ("claim", 0, "cd", "ann"), ("renew", 0, "ab"), ("back", 0, "ab"), ("round",)], 6),
        (2, 2, [("claim", 0, "ab", "joe"), ("claim", 1, "ab", "ann"), ("back", 0, "ab"), ("carry", 0), ("carry", 1),
                ("copy", 0), ("lose", 0), ("round",)], 5),
        (3, 2, [("claim", 0, "ab", "joe"), ("claim", 1, "ab", "ann"), ("back", 0, "ab"), ("carry", 0), ("carry", 1),
                ("carry", 2), ("round",)], 5),
        (3, 3, [("claim", 0, "ab", "joe"), ("claim", 2, "ab", "ann"), ("part", (0, 1)), ("heal",), ("fall", 1),
                ("rise", 1), ("carry", 0), ("carry", 2), ("round",)], 4),
        (5, 2, [("claim", 0, "ab", "joe"), ("claim", 4, "ab", "ann"), ("carry", 0), ("carry", 2), ("round",)], 6),
    )

    def reached(self, world, deeds, most):
        """All worlds that these deeds lead to, with the least number of deeds."""
        found = {world: 0}
        for length in range(most):
            for ahead in [ahead for ahead in found if found[ahead] == length]:
                for deed in deeds:
                    try:
                        found.setdefault(done(ahead, deed), length + 1)
                    except HouseError:
                        pass
        return found

    def test_one_at_most_has_the_name(self):
        held = 0
        for many, term, deeds, most in self.SMALL:
            world = world_of(many, term)
            found = self.reached(world, deeds, most)
            self.assertLessEqual(len(found), 2000, (many, deeds))
            begun = time.perf_counter()
            counts = worlds_found(world, deeds, most)
            self.assertLess(time.perf_counter() - begun, SECONDS)
            lengths = list(found.values())
            self.assertEqual(counts, [lengths.count(length) for length in range(most + 1)])
            shortest = {}
            for behind, length in found.items():
                holders = Model(behind).holders("ab")
                self.assertLessEqual(len(holders), 1)
                self.assertEqual([claim[1:] for claim in holders_in(behind) if claim[0] == "ab"], holders)
                for house, number, person in holders:
                    held += 1
                    shortest[house] = min(length, shortest.get(house, length))
            self.look_at_rows(world, deeds, most, shortest)
        self.assertGreater(held, 500)

    def look_at_rows(self, world, deeds, most, shortest):
        for house in range(len(world[2])):
            row = shortest_row(world, deeds, most, "ab", house)
            self.assertEqual(None if row is None else len(row), shortest.get(house))
            if row is not None:
                story = story_of(len(world[2]), world[1], row)
                self.assertIn(("ab", house), [part[:2] for part in story[-1][1]])
                self.assertFalse(any(("ab", house) in [part[:2] for part in told] for deed, told in story[:-1]))
                self.assertEqual(spells_of(len(world[2]), world[1], row)[-1][4:], (len(row), None))


class WholeTest(unittest.TestCase):
    def test_the_interface(self):
        """Every name of the document's interface stands in its module, and say in the class itself."""
        interface = {
            "errors": ["HouseError", "NoDeed", "Down", "Up", "NoLetter", "Busy", "NoClaim", "TooMany", "NoText", "NoRow"],
            "houses": ["needed", "is_deed", "reach_of"], "logs": ["is_log", "word_in", "claim_in", "next_number"],
            "letters": ["taken"], "worlds": ["world_of", "done"], "holders": ["holder_of", "paper_for", "paper_shows"],
            "looks": ["look_up", "ages_of"], "quiet": ["quiet_round", "quiet_rounds", "barred_for", "claimed_surely"],
            "runs": ["worlds_found", "shortest_row"], "stories": ["story_of", "first_wrong", "spells_of"],
            "texts": ["show_deed", "show_log", "read_deed", "read_log"], "desk": ["Desk"]}
        for module, names in interface.items():
            loaded = __import__("onename." + module, fromlist=names)
            for name in names:
                self.assertEqual(getattr(loaded, name).__module__, "onename." + module)
        self.assertIn("say", vars(Desk))


if __name__ == "__main__":
    unittest.main()
