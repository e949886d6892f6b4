"""Points 24 and 25: stories and spells."""

import unittest

from drawing import Drawing, any_deed
from model import Model, Refused
from samples import NOT_WHOLE, STRANGE

from onename.errors import HouseError, NoDeed
from onename.houses import is_deed
from onename.stories import first_wrong, spells_of, story_of
from onename.worlds import world_of

CLAIM = ("claim", 0, "ab", "joe")
HELD = (("ab", 0, "joe"),)
NAMES = ("ab", "cd", "ef")

# Three houses, term 3: a deed of each refusal, and what is told behind each deed.
REFUSALS = [
    (("carry", 0), "NoLetter"), (("rise", 0), "Up"), (("renew", 0, "ab"), "NoClaim"), (("back", 1, "ab"), "NoClaim"),
    (CLAIM, ()), (CLAIM, "Busy"), (("carry", 2), "NoLetter"), (("carry", 0), ()), (("carry", 1), HELD),
    (("claim", 3, "cd", "joe"), "NoDeed"), (("claim", 0, "ab", "ann"), "Busy"), (("fall", 0), HELD),
    (("fall", 0), "Down"), (("renew", 0, "ab"), "Down"), (("part", (0, 1, 2)), "NoDeed"), (("rise", 1), "Up"),
    (("round",), HELD), (("rise", 0), HELD), (("part", (0,)), HELD), (("renew", 0, "ab"), HELD),
    (("carry", 0), "NoLetter"), (("round",), HELD), (("round",), ()), (("back", 0, "ab"), ()),
    (("back", 0, "ab"), "NoClaim"),
]

# One house: several names at once.
SEVERAL = [
    (("claim", 0, "cd", "ann"), (("cd", 0, "ann"),)),
    (("claim", 0, "ab", "joe"), (("ab", 0, "joe"), ("cd", 0, "ann"))),
    (("claim", 0, "b", "joe"), (("ab", 0, "joe"), ("b", 0, "joe"), ("cd", 0, "ann"))),
    (("claim", 0, "abc", "sue"), (("ab", 0, "joe"), ("abc", 0, "sue"), ("b", 0, "joe"), ("cd", 0, "ann"))),
    (("back", 0, "ab"), (("abc", 0, "sue"), ("b", 0, "joe"), ("cd", 0, "ann"))),
    (("round",), (("abc", 0, "sue"), ("b", 0, "joe"), ("cd", 0, "ann"))),
    (("renew", 0, "b"), (("abc", 0, "sue"), ("b", 0, "joe"), ("cd", 0, "ann"))),
    (("round",), (("b", 0, "joe"),)),
    (("claim", 0, "ab", "ann"), (("ab", 0, "ann"), ("b", 0, "joe"))),
    (("round",), (("ab", 0, "ann"),)),
    (("round",), ()),
]

# Two houses, term 2: the name goes from one house to the other, and back.
PASSED_ON = [
    (("claim", 1, "ab", "joe"), ()), (("claim", 0, "cd", "ann"), ()), (("carry", 0), ()), (("carry", 0), ()),
    (("carry", 0), (("ab", 1, "joe"),)), (("carry", 0), (("ab", 1, "joe"), ("cd", 0, "ann"))),
    (("back", 1, "ab"), (("cd", 0, "ann"),)), (("round",), (("cd", 0, "ann"),)), (("round",), ()),
    (("claim", 0, "ab", "sue"), ()), (("carry", 0), ()), (("carry", 0), ()), (("carry", 0), ()), (("carry", 0), ()),
    (("carry", 0), (("ab", 0, "sue"),)),
]
STORIES = ((3, 3, REFUSALS), (1, 2, SEVERAL), (2, 2, PASSED_ON), (5, 9, []))


def deeds_of(story):
    return [deed for deed, told in story]


def drawn_deeds(seed, many, term, steps):
    """Drawn deeds, refused ones and things that are no deeds among them."""
    drawing = Drawing(seed)
    model = Model(world_of(many, term))
    deeds = []
    for step in range(steps):
        deed = any_deed(drawing, model.world(), NAMES, NAMES)
        if drawing.below(12) == 0:
            deeds.append(drawing.one_of((None, list(deed), deed + (0,), deed[:-1], "round", ("claim", many, "ab", "joe"))))
        deeds.append(deed)
        try:
            model.do(deed)
        except Refused:
            pass
    return deeds


def model_moments(many, term, deeds):
    """Behind each deed: the refusal's name or None, and all claims that have a name, by the model."""
    model = Model(world_of(many, term))
    for deed in deeds:
        refusal = None
        if not is_deed(many, deed):
            refusal = "NoDeed"
        else:
            try:
                model.do(deed)
            except Refused as error:
                refusal = str(error)
        yield refusal, [(name,) + holder for name in NAMES for holder in model.holders(name)]


def model_story(many, term, deeds):
    return [(deed, refusal or tuple((name, house, person) for name, house, number, person in holders))
            for deed, (refusal, holders) in zip(deeds, model_moments(many, term, deeds))]


def model_spells(many, term, deeds):
    """Spells claim by claim: the moments at which it has the name, cut where one follows not on the other."""
    moments = [holders for refusal, holders in model_moments(many, term, deeds)]
    spells = []
    for claim in {claim for holders in moments for claim in holders}:
        had = [False] + [claim in holders for holders in moments]
        for at in range(1, len(had)):
            if had[at] and not had[at - 1]:
                ends = [later for later in range(at, len(had)) if not had[later]]
                spells.append(claim + (at, ends[0] if ends else None))
    return sorted(spells, key=lambda spell: spell[:5])


class StoryTest(unittest.TestCase):
    def test_no_deeds(self):
        for many in (1, 3, 7):
            self.assertEqual(story_of(many, 2, []), [])

    def test_written_out(self):
        for many, term, story in STORIES:
            told = story_of(many, term, deeds_of(story))
            for place, part in enumerate(story):
                self.assertEqual(told[place], part, place)
            self.assertEqual(told, story)

    def test_each_refusal_is_told(self):
        self.assertEqual({told for deed, told in REFUSALS if isinstance(told, str)},
                         {"NoDeed", "NoLetter", "Down", "Up", "Busy", "NoClaim"})

    def test_refused_deeds_change_nothing(self):
        kept = [part for part in REFUSALS if not isinstance(part[1], str)]
        self.assertEqual(story_of(3, 3, deeds_of(kept)), kept)

    def test_things_that_are_no_deeds(self):
        for thing in STRANGE + (0, 5, "round", "claim", ["round"], ("rounds",), ("round", 0), ("carry", True),
                                ("claim", 3, "ab", "joe"), ("part", ()), ("part", [0]), ("part", (0, 1, 2))):
            story = story_of(3, 3, [thing, CLAIM, thing, ("carry", 0), ("carry", 1), thing])
            self.assertEqual(story, [(thing, "NoDeed"), (CLAIM, ()), (thing, "NoDeed"), (("carry", 0), ()),
                                     (("carry", 1), HELD), (thing, "NoDeed")])
            self.assertIs(story[0][0].__class__, thing.__class__)

    def test_the_kinds(self):
        story = story_of(3, 3, deeds_of(REFUSALS))
        self.assertIs(story.__class__, list)
        for part in story:
            self.assertIs(part.__class__, tuple)
            self.assertIn(part[1].__class__, (tuple, str))
            for holder in part[1]:
                self.assertIn(holder.__class__, (tuple, str))

    def test_drawn(self):
        told = 0
        for seed in range(42):
            many, term = seed % 7 + 1, (2, 3, 9)[seed // 7 % 3]
            deeds = drawn_deeds(seed, many, term, 90)
            story = story_of(many, term, deeds)
            self.assertEqual(story, model_story(many, term, deeds))
            self.assertIsNone(first_wrong(many, term, story))
            told += len([part for part in story if isinstance(part[1], tuple) and len(part[1]) > 1])
        self.assertGreater(told, 100)

    def test_four_hundred_deeds(self):
        names = [first + second for first in "abcdefghijklmnopqrst" for second in "abcdefghijklmnopqrst"]
        story = story_of(1, 9, [("claim", 0, name, "joe") for name in reversed(names)])
        self.assertEqual(story[-1], (("claim", 0, "aa", "joe"), tuple((name, 0, "joe") for name in names)))
        self.assertIsNone(first_wrong(1, 9, story))
        rounds = story_of(7, 2, [("round",)] * 400)
        self.assertEqual(rounds, [(("round",), ())] * 400)

    def test_the_lists_are_the_askers_own(self):
        inner = ["a", ["b"]]
        deeds = [CLAIM, inner, ("part", inner), {"a": inner}, inner]
        kept = repr(deeds)
        first = story_of(3, 3, deeds)
        second = story_of(3, 3, deeds)
        self.assertEqual(repr(deeds), kept)
        expected = repr(second)
        self.assertEqual(first, second)
        first[1][0][1].append("c")
        first[2][0][1].append("c")
        first[3][0]["a"].append("c")
        first.append(5)
        self.assertEqual(repr(deeds), kept)
        self.assertEqual(repr(second), expected)
        self.assertEqual(first[4], (["a", ["b"]], "NoDeed"))
        inner.append("d")
        deeds.clear()
        self.assertEqual(repr(second), expected)

    def test_nested_deeply(self):
        thing = ()
        for step in range(300):
            thing = [thing] if step % 2 else (thing,)
        story = story_of(3, 3, [thing, ("round",)])
        self.assertEqual(story[1], (("round",), ()))
        self.assertIsNone(first_wrong(3, 3, story))
        self.assertIsNone(first_wrong(3, 3, [(thing, "NoDeed")]))
        self.assertEqual(first_wrong(3, 3, [(("round",), thing)]), 0)

    def test_many_or_term_that_is_none(self):
        for many, term in ((0, 3), (8, 3), (3, 1), (3, 10), (True, 3), (3, None)):
            for function in (story_of, first_wrong, spells_of):
                with self.assertRaises(HouseError) as caught:
                    function(many, term, [])
                self.assertIs(caught.exception.__class__, NoDeed)


class FirstWrongTest(unittest.TestCase):
    def test_an_empty_list(self):
        for many in range(1, 8):
            self.assertIsNone(first_wrong(many, 2, []))

    def test_stories_as_they_are_told(self):
        for many, term, story in STORIES:
            for length in range(len(story) + 1):
                self.assertIsNone(first_wrong(many, term, story[:length]))

    def wrong_told(self, right):
        """Tolds that are not the right one."""
        wrong = [None, True, False, 0, 1, "", "ok", "none", "HouseError", "TooMany", "NoText", "Nodeed", "NoDeed ", [],
                 {}, {"ab": 1}, b"NoDeed", object(), len, ((),), ("NoDeed",), ("ab",), (("ab", 0, "joe", 1),),
                 (("ab", 0),), (("ab", 0, 1, "joe"),), ("ab", 0, "joe"), (("zz", 0, "joe"),)]
        wrong += [name for name in ("NoDeed", "NoLetter", "Down", "Up", "Busy", "NoClaim") if name != right]
        if isinstance(right, str):
            return wrong + [(), (right,), [right], right + " ", right.lower(), list(right), tuple(right), right.encode()]
        wrong += [list(right), right + right if right else (("ab", 0, "joe"),), right + ((),), repr(right), set(right),
                  {holder: True for holder in right}]
        if len(right) > 1:
            wrong.append(right[::-1])
        for at, holder in enumerate(right):
            name, house, person = holder
            others = (list(holder), holder[:2], holder + (1,), "".join(map(str, holder)), (name, bool(house), person),
                      (name, str(house), person), (name, house + 1, person), (name, -1, person), (name, None, person),
                      (name, house, "zed"), (name, house, None), (name, house, [person]), (name + "x", house, person),
                      (name.encode(), house, person), (person, house, name), (house, name, person), None)
            wrong += [right[:at] + (other,) + right[at + 1:] for other in others]
            wrong += [right[:at] + right[at + 1:], right[:at] + (holder, holder) + right[at + 1:]]
        return wrong

    def test_a_wrong_told(self):
        for many, term, story in STORIES:
            for place, (deed, right) in enumerate(story):
                for wrong in self.wrong_told(right):
                    other = story[:place] + [(deed, wrong)] + story[place + 1:]
                    self.assertEqual(first_wrong(many, term, other), place, wrong)
                    self.assertEqual(first_wrong(many, term, other[:place + 1]), place, wrong)

    def test_truths_for_numbers(self):
        story = [(("claim", 0, "ab", "joe"), (("ab", 0, "joe"),))]
        self.assertIsNone(first_wrong(1, 2, story))
        self.assertEqual(first_wrong(1, 2, [(("claim", 0, "ab", "joe"), (("ab", False, "joe"),))]), 0)
        self.assertEqual(first_wrong(2, 2, PASSED_ON[:4] + [(("carry", 0), (("ab", True, "joe"),))]), 4)
        self.assertIsNone(first_wrong(2, 2, PASSED_ON[:4] + [(("carry", 0), (("ab", 1, "joe"),))]))
        self.assertEqual(first_wrong(2, 2, PASSED_ON[:4] + [(("carry", False), (("ab", 1, "joe"),))]), 4)
        self.assertIsNone(first_wrong(2, 2, PASSED_ON[:4] + [(("carry", False), "NoDeed")]))

    def test_a_deed_that_is_none(self):
        for thing in STRANGE + NOT_WHOLE + (["round"], ("rounds",), ("claim", 3, "ab", "joe"), "round"):
            story = [(CLAIM, ()), (thing, "NoDeed"), (("carry", 0), ()), (("carry", 1), HELD)]
            self.assertIsNone(first_wrong(3, 3, story))
            for wrong in ((), HELD, None, "NoRow", "Busy", ("NoDeed",)):
                self.assertEqual(first_wrong(3, 3, story[:1] + [(thing, wrong)] + story[2:]), 1)

    def test_tuples_of_two_of_whatever_things(self):
        for deed in STRANGE:
            for told in STRANGE:
                self.assertEqual(first_wrong(3, 3, [(deed, told)]), 0)
                self.assertEqual(first_wrong(3, 3, [(("round",), ()), (deed, told)]), 1)

    def test_a_thing_that_is_equal_to_all_others(self):
        class Alike:
            def __eq__(self, other):
                return True

        for place, (deed, right) in enumerate(REFUSALS):
            self.assertEqual(first_wrong(3, 3, REFUSALS[:place] + [(deed, Alike())]), place)
            self.assertEqual(first_wrong(3, 3, REFUSALS[:place] + [(Alike(), right)]), None if right == "NoDeed" else place)
        for holder in (Alike(), (Alike(), 0, "joe"), ("ab", Alike(), "joe"), ("ab", 0, Alike())):
            self.assertEqual(first_wrong(1, 2, [(CLAIM, (holder,))]), 0)

    def test_what_is_no_tuple_of_two(self):
        for part in STRANGE + ("ab", [CLAIM, ()], (CLAIM,), (CLAIM, (), ()), {CLAIM: ()}, CLAIM):
            self.assertEqual(first_wrong(3, 3, [(("round",), ()), part, (CLAIM, ())]), 1)

    def test_a_wrong_deed_shows_later(self):
        self.assertEqual(first_wrong(3, 3, [(("claim", 0, "ab", "ann"), ()), (("carry", 0), ()), (("carry", 1), HELD)]), 2)
        self.assertEqual(first_wrong(3, 2, REFUSALS), 21)
        self.assertEqual(first_wrong(4, 3, REFUSALS), 6)

    def test_the_first_of_several(self):
        story = [(deed, None) for deed, told in REFUSALS]
        self.assertEqual(first_wrong(3, 3, story), 0)
        self.assertEqual(first_wrong(3, 3, REFUSALS[:7] + story[7:]), 7)

    def test_a_story_that_goes_on_rightly(self):
        """What is told at the wrong place is not taken for true behind it: the deeds alone count."""
        wrong = REFUSALS[:8] + [(("carry", 1), ())] + REFUSALS[9:]
        self.assertEqual(first_wrong(3, 3, wrong), 8)
        self.assertEqual(first_wrong(3, 3, wrong + [(("round",), "Busy")]), 8)

    def test_nothing_that_is_handed_in_is_changed(self):
        story = [(CLAIM, ()), (["a", ["b"]], "NoDeed"), ({"a": []}, [])]
        kept = repr(story)
        self.assertEqual(first_wrong(3, 3, story), 2)
        self.assertEqual(repr(story), kept)
        self.assertEqual(first_wrong(3, 3, story), 2)


class SpellsTest(unittest.TestCase):
    def test_none(self):
        for deeds in ([], [("round",)] * 5, [CLAIM], [CLAIM, ("carry", 0)], [None, "round"]):
            self.assertEqual(spells_of(3, 3, deeds), [])

    def test_ended_by_nothing(self):
        self.assertEqual(spells_of(1, 2, [CLAIM]), [("ab", 0, 1, "joe", 1, None)])
        self.assertEqual(spells_of(1, 2, [("round",), CLAIM, ("round",)]), [("ab", 0, 1, "joe", 2, None)])
        self.assertEqual(spells_of(3, 3, [CLAIM, ("carry", 0), ("carry", 1)]), [("ab", 0, 1, "joe", 3, None)])

    def test_ended_by_rounds(self):
        self.assertEqual(spells_of(1, 2, [CLAIM, ("round",), ("round",), ("round",)]), [("ab", 0, 1, "joe", 1, 3)])
        self.assertEqual(spells_of(1, 9, [CLAIM] + [("round",)] * 9), [("ab", 0, 1, "joe", 1, 10)])
        self.assertEqual(spells_of(1, 9, [CLAIM] + [("round",)] * 8), [("ab", 0, 1, "joe", 1, None)])

    def test_ended_by_giving_back(self):
        self.assertEqual(spells_of(1, 2, [CLAIM, ("back", 0, "ab")]), [("ab", 0, 1, "joe", 1, 2)])
        self.assertEqual(spells_of(1, 2, [CLAIM, ("back", 0, "cd"), ("back", 0, "ab"), ("round",)]),
                         [("ab", 0, 1, "joe", 1, 3)])

    def test_a_fall_does_not_end_it(self):
        self.assertEqual(spells_of(1, 3, [CLAIM, ("fall", 0), ("rise", 0)]), [("ab", 0, 1, "joe", 1, None)])

    def test_a_renewal_makes_it_longer(self):
        deeds = [CLAIM, ("round",), ("renew", 0, "ab"), ("round",), ("round",), ("round",)]
        self.assertEqual(spells_of(1, 2, deeds), [("ab", 0, 1, "joe", 1, 5)])

    def test_several_of_one_claim(self):
        """The renewal is asked ahead of the end, but the other houses' words come behind it."""
        deeds = [CLAIM, ("carry", 0), ("carry", 1), ("round",), ("renew", 0, "ab"), ("round",)]
        more = [("carry", 0), ("carry", 2), ("carry", 3), ("carry", 0), ("round",), ("round",)]
        spells = spells_of(3, 2, deeds + [("lose", 0)] * 3 + [("carry", 0), ("carry", 1), ("round",), ("round",)])
        self.assertEqual(spells, [("ab", 0, 1, "joe", 3, 6), ("ab", 0, 1, "joe", 11, 12)])
        self.assertEqual(spells_of(3, 2, deeds + more), model_spells(3, 2, deeds + more))

    def test_several_claims_of_one_house(self):
        deeds = [CLAIM, ("back", 0, "ab"), ("claim", 0, "ab", "ann"), ("round",), ("round",), CLAIM]
        self.assertEqual(spells_of(1, 2, deeds), [("ab", 0, 1, "joe", 1, 2), ("ab", 0, 2, "ann", 3, 5),
                                                  ("ab", 0, 3, "joe", 6, None)])

    def test_sorted_by_names_houses_and_numbers(self):
        self.assertEqual(spells_of(1, 2, deeds_of(SEVERAL)), [
            ("ab", 0, 2, "joe", 2, 5), ("ab", 0, 5, "ann", 9, 11), ("abc", 0, 4, "sue", 4, 8), ("b", 0, 3, "joe", 3, 10),
            ("cd", 0, 1, "ann", 1, 8)])
        self.assertEqual(spells_of(2, 2, deeds_of(PASSED_ON)), [
            ("ab", 0, 2, "sue", 15, None), ("ab", 1, 1, "joe", 5, 7), ("cd", 0, 1, "ann", 6, 9)])

    def test_refused_deeds_are_counted(self):
        self.assertEqual(spells_of(3, 3, deeds_of(REFUSALS)), [("ab", 0, 1, "joe", 9, 23)])
        self.assertEqual(spells_of(1, 2, [("carry", 0), CLAIM, CLAIM, ("rise", 0), ("back", 0, "ab")]),
                         [("ab", 0, 1, "joe", 2, 5)])

    def test_things_that_are_no_deeds_are_counted(self):
        for thing in STRANGE + (["round"], ("rounds",)):
            self.assertEqual(spells_of(1, 2, [thing, CLAIM, thing, ("back", 0, "ab"), thing]),
                             [("ab", 0, 1, "joe", 2, 4)])

    def test_drawn(self):
        told = again = 0
        for seed in range(100, 156):
            many, term = seed % 7 + 1, (2, 3, 9)[seed // 7 % 3]
            deeds = drawn_deeds(seed, many, term, 120)
            spells = spells_of(many, term, deeds)
            self.assertEqual(spells, model_spells(many, term, deeds))
            told += len(spells)
            again += len(spells) - len({spell[:4] for spell in spells})
        self.assertGreater(told, 60)
        self.assertGreater(again, 0)

    def test_the_list_is_the_askers_own(self):
        deeds = [CLAIM, ["a"], ("back", 0, "ab")]
        kept = repr(deeds)
        first = spells_of(1, 2, deeds)
        self.assertIs(first.__class__, list)
        self.assertIs(first[0].__class__, tuple)
        first.append(5)
        self.assertEqual(spells_of(1, 2, deeds), [("ab", 0, 1, "joe", 1, 3)])
        self.assertEqual(repr(deeds), kept)
        self.assertIsNot(spells_of(1, 2, []), spells_of(1, 2, []))


if __name__ == "__main__":
    unittest.main()
