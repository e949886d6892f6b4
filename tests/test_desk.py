"""Point 27: the desk."""

import unittest

from samples import STRANGE
from worlds_by_hand import run
from writings import bent, bent_by_words, is_writing, row_pattern

from onename.desk import Desk
from onename.errors import Busy, Down, HouseError, NoClaim, NoLetter, NoRow, Up

# One of each kind of row, for three houses.
ROWS = ("houses 3 3", "claim 0 ab joe", "renew 0 ab", "back 0 ab", "carry 0", "copy 1", "lose 0", "fall 1", "rise 1",
        "part 0,2", "heal", "round", "who ab", "look 1 ab 20", "paper ab", "log 0", "now", "yard", "barred ab",
        "quiet 3", "quiet 20", "sure 2 ab joe")
ASKING = ("who ab", "who cd", "look 0 ab 9", "look 1 ab 9", "look 2 ab 9", "paper ab", "paper cd", "log 0", "log 1",
          "log 2", "now", "yard", "barred ab", "barred cd")


def asked(desk):
    """All that a desk of three houses tells, the refusals by their names."""
    told = []
    for row in ASKING:
        try:
            told.append(desk.say(row))
        except HouseError as error:
            told.append(error.__class__.__name__)
    return told


class DeskTest(unittest.TestCase):
    def desk(self, *rows):
        """A desk that was told these rows."""
        desk = Desk()
        for row in rows:
            desk.say(row)
        return desk

    def had(self):
        """House 0 of three has ab, by its own word and house 1's."""
        return self.desk("claim 0 ab joe", "carry 0", "carry 1")

    def refused(self, error, desk, row):
        kept = asked(desk)
        with self.assertRaises(HouseError) as caught:
            desk.say(row)
        self.assertIs(caught.exception.__class__, error, repr(row))
        self.assertEqual(asked(desk), kept)


class AnswerTest(DeskTest):
    def test_as_it_begins(self):
        desk = Desk()
        for row, answer in (("now", "0"), ("yard", "0"), ("who ab", "none"), ("paper ab", "none"), ("barred ab", "0"),
                            ("log 0", "-"), ("log 1", "-"), ("log 2", "-"), ("look 0 ab 0", "none"),
                            ("look 2 joe 999999999", "none")):
            self.assertEqual(desk.say(row), answer)
        self.refused(NoRow, desk, "log 3")
        self.assertEqual(desk.say("claim 2 ab joe"), "ok")
        self.assertEqual(desk.say("log 2"), "ask ab 1 joe 3\nword ab 2 1 3\ngot ab 1 2 3")
        self.assertEqual(desk.say("yard"), "2")

    def test_a_run(self):
        desk = Desk()
        for row, answer in (
                ("claim 0 ab joe", "ok"), ("yard", "2"), ("who ab", "none"), ("paper ab", "none"), ("barred ab", "3"),
                ("carry 0", "ok"), ("log 1", "word ab 0 1 3"), ("who ab", "none"), ("carry 1", "ok"),
                ("who ab", "0 1 joe"), ("paper ab", "0:3 1:3"), ("look 0 ab 0", "joe 0 0"), ("look 1 ab 0", "none"),
                ("yard", "3"), ("round", "ok"), ("now", "1"), ("barred ab", "2"), ("look 0 ab 0", "none"),
                ("look 0 ab 1", "joe 0 0"), ("copy 0", "ok"), ("yard", "4"), ("lose 3", "ok"), ("yard", "3"),
                ("part 0", "ok"), ("heal", "ok"), ("carry 1", "ok"), ("look 1 ab 9", "joe 0 0"), ("fall 1", "ok"),
                ("rise 1", "ok"), ("look 1 ab 9", "none"), ("renew 0 ab", "ok"), ("quiet 1", "ok"), ("now", "2"),
                ("yard", "0"), ("paper ab", "0:4 1:4 2:4"), ("look 2 ab 1", "joe 0 1"), ("back 0 ab", "ok"),
                ("who ab", "none"), ("paper ab", "none"), ("look 2 ab 1", "joe 0 1"), ("quiet 0", "ok"), ("now", "2"),
                ("yard", "2"), ("quiet 20", "ok"), ("now", "22"), ("yard", "0"), ("barred ab", "0"),
                ("log 1", "word ab 0 1 3\nword ab 0 1 4\nfree ab 0 1"), ("sure 1 ab sue", "1"), ("now", "26"),
                ("who ab", "1 1 sue"), ("paper ab", "0:28 1:28 2:28"), ("sure 0 ab ann", "2"), ("who ab", "0 2 ann"),
                ("houses 1 2", "ok"), ("now", "0"), ("yard", "0"), ("who ab", "none"), ("log 0", "-"),
                ("claim 0 none none", "ok"), ("who none", "0 1 none"), ("look 0 none 0", "none 0 0"),
                ("paper none", "0:2")):
            self.assertEqual(desk.say(row), answer, row)

    def test_several_names(self):
        desk = self.desk("houses 1 9", "claim 0 ab joe", "claim 0 cd ann", "round", "claim 0 ef sue")
        self.assertEqual([desk.say("who " + name) for name in ("ab", "cd", "ef", "gh")],
                         ["0 1 joe", "0 2 ann", "0 3 sue", "none"])
        self.assertEqual([desk.say("look 0 " + name + " 0") for name in ("ab", "cd", "ef", "gh")],
                         ["none", "none", "sue 0 1", "none"])

    def test_every_many_and_term(self):
        for many in range(1, 8):
            for term in range(2, 10):
                desk = self.desk("claim 0 ab joe", "round")
                self.assertEqual(desk.say(f"houses {many} {term}"), "ok")
                self.assertEqual([desk.say("now"), desk.say("yard"), desk.say("who ab")], ["0", "0", "none"])
                self.assertEqual([desk.say(f"log {house}") for house in range(many)], ["-"] * many)
                with self.assertRaises(NoRow):
                    desk.say(f"log {many}")
                desk.say(f"claim {many - 1} ab joe")
                self.assertEqual(desk.say("yard"), str(many - 1))
                self.assertEqual(desk.say("barred ab"), str(term))

    def test_quiet_rounds(self):
        for rounds in range(21):
            desk = self.desk("claim 0 ab joe", "part 2")
            self.assertEqual(desk.say(f"quiet {rounds}"), "ok")
            self.assertEqual(desk.say("now"), str(rounds))
            self.assertEqual(desk.say("yard"), "2")
            self.assertEqual(desk.say("who ab"), "0 1 joe" if 0 < rounds < 3 else "none")

    def test_paper_of_words_that_reach_above_now(self):
        desk = self.desk("houses 3 2", "claim 0 ab joe", "carry 0", "carry 1", "round", "renew 0 ab", "lose 1", "lose 1")
        self.assertEqual(desk.say("paper ab"), "0:3 1:2")

    def test_a_long_log(self):
        desk = self.desk("houses 1 2")
        entries = []
        for number in range(1, 120):
            desk.say("claim 0 ab joe")
            desk.say("back 0 ab")
            entries += [f"ask ab {number} joe 2", f"word ab 0 {number} 2", f"got ab {number} 0 2", f"back ab {number}",
                        f"free ab 0 {number}"]
        self.assertEqual(desk.say("log 0"), "\n".join(entries))

    def test_texts_are_told(self):
        desk = Desk()
        for row in ROWS[:2] + ROWS[10:]:
            self.assertIs(desk.say(row).__class__, str)

    def test_the_same_asked_again(self):
        desk = self.had()
        self.assertEqual(asked(desk), asked(desk))
        self.assertEqual(asked(desk), asked(self.had()))

    def test_two_desks_beside_each_other(self):
        first, second = Desk(), Desk()
        first.say("claim 0 ab joe")
        self.assertEqual((first.say("yard"), second.say("yard")), ("2", "0"))
        second.say("houses 1 2")
        second.say("claim 0 ab ann")
        self.assertEqual((first.say("who ab"), second.say("who ab")), ("none", "0 1 ann"))
        first.say("quiet 1")
        self.assertEqual((first.say("who ab"), second.say("who ab")), ("0 1 joe", "0 1 ann"))
        self.assertEqual((first.say("now"), second.say("now")), ("1", "0"))
        self.assertEqual(asked(Desk()), asked(Desk()))


class RefusalTest(DeskTest):
    def test_what_is_no_text(self):
        for thing in STRANGE + (0, 1, ["now"], ("now",), ("round",), b"now", {"now": 1}, ("claim", 0, "ab", "joe")):
            if not isinstance(thing, str):
                self.refused(NoRow, Desk(), thing)
                self.refused(NoRow, self.had(), thing)

    def test_no_such_row(self):
        for row in ("", " ", "\n", "-", "ok", "none", "Now", "NOW", "nows", "no", "who", "what ab", "logs 0", "help",
                    "ask ab 1 joe 3", "word ab 0 1 3", "now now", "who none none", "round 1", "rounds", "houses",
                    "say now", "now\nyard", "now;yard", "a" * 4000, "now " * 1000, " " * 4000, "\n" * 4000):
            self.refused(NoRow, self.had(), row)

    def test_every_row_bent_by_one_sign(self):
        signs = [" ", "\n", "!", "+", "-", ",", ".", "0", "1", "2", "3", "9", "A", "a", "z", "_", ":", "~"]
        self.bend(lambda row: bent(row, signs), 200)

    def test_every_row_bent_by_words(self):
        self.bend(bent_by_words, 60)

    def bend(self, bending, least):
        """Refused with NoRow just where the row is none."""
        rows = 0
        for row in ROWS:
            for other in bending(row):
                desk = self.had()
                try:
                    desk.say(other)
                    is_row = True
                except HouseError as error:
                    is_row = error.__class__ is not NoRow
                self.assertEqual(is_row, is_writing(row_pattern(3), other), repr(other))
                if not is_row:
                    self.assertEqual(asked(desk), asked(self.had()))
                rows += is_row
        self.assertGreater(rows, least)

    def test_houses_that_are_none(self):
        for many in range(1, 8):
            for house in (many, many + 1, 10, -1, "00", "a", "", "+0", "0,1", "999999999"):
                for row in (f"log {house}", f"look {house} ab 3", f"sure {house} ab joe", f"claim {house} ab joe",
                            f"renew {house} ab", f"back {house} ab", f"fall {house}", f"rise {house}"):
                    desk = self.desk(f"houses {many} 3")
                    with self.assertRaises(HouseError) as caught:
                        desk.say(row)
                    self.assertIs(caught.exception.__class__, NoRow, row)

    def test_names_and_persons_that_are_none(self):
        for name in ("", "abcdefghi", "Ab", "a1", "1", "a-b", "ab,", "a\n", "~", "`", "{", "-", "a" * 3000):
            for row in (f"who {name}", f"look 0 {name} 3", f"paper {name}", f"barred {name}", f"sure 0 {name} joe",
                        f"sure 0 ab {name}", f"claim 0 {name} joe", f"claim 0 cd {name}", f"renew 0 {name}",
                        f"back 0 {name}"):
                self.refused(NoRow, self.had(), row)

    def test_many_and_term_out_of_their_bounds(self):
        for many in ("0", "8", "9", "10", "00", "03", "-1", "+3", "3.0", "a", "", "1000000000", "333333333"):
            self.refused(NoRow, self.had(), f"houses {many} 3")
        for term in ("0", "1", "10", "11", "02", "-2", "+3", "3.0", "a", "", "1000000000", "333333333"):
            self.refused(NoRow, self.had(), f"houses 3 {term}")
        for row in ("houses 3", "houses 3 3 3", "houses", "houses 3,3", "houses  3 3", "houses 3  3", "houses 3 3 "):
            self.refused(NoRow, self.had(), row)

    def test_rounds_out_of_their_bounds(self):
        for rounds in ("21", "22", "100", "-1", "00", "01", "020", "+1", "1.0", "", "a", "999999999", "1000000000"):
            self.refused(NoRow, self.had(), f"quiet {rounds}")

    def test_ages(self):
        desk = self.had()
        for age in ("0", "1", "9", "10", "99", "100000000", "999999999"):
            self.assertEqual(desk.say(f"look 0 ab {age}"), "joe 0 0")
        for age in ("1000000000", "9999999999", "00", "01", "0000000001", "-1", "+1", "1.0", "", "a", "1" * 3000):
            self.refused(NoRow, desk, f"look 0 ab {age}")

    def test_numbers_of_deeds_may_be_longer(self):
        desk = self.had()
        for kind in ("carry", "copy", "lose"):
            for place in ("999999999", "1000000000", "1" * 30, "9" * 3990, "9" * 5000):
                self.refused(NoLetter, desk, f"{kind} {place}")
            for place in ("01", "00", "0" * 30, "0" + "1" * 30, "-1", "+1", ""):
                self.refused(NoRow, desk, f"{kind} {place}")

    def test_deeds_are_read_for_the_houses_that_are(self):
        desk = self.desk("houses 5 3")
        self.assertEqual(desk.say("part 0,1,2,4"), "ok")
        self.assertEqual(desk.say("fall 4"), "ok")
        desk.say("houses 2 3")
        with self.assertRaises(NoRow):
            desk.say("part 0,1")
        with self.assertRaises(NoRow):
            desk.say("fall 4")
        self.assertEqual(desk.say("part 1"), "ok")

    def test_the_refusals_of_deeds(self):
        desk = self.had()
        for error, row in ((NoLetter, "carry 3"), (NoLetter, "copy 3"), (NoLetter, "lose 9"), (Up, "rise 0"),
                           (Busy, "claim 0 ab joe"), (NoClaim, "renew 1 ab"), (NoClaim, "back 0 cd")):
            self.refused(error, desk, row)
        desk.say("fall 1")
        for error, row in ((Down, "fall 1"), (Down, "claim 1 ab joe"), (Down, "renew 1 ab"), (Down, "back 1 ab"),
                           (Down, "carry 1"), (Down, "look 1 ab 3"), (Down, "look 1 cd 0"), (NoLetter, "carry 3"),
                           (Up, "rise 2")):
            self.refused(error, desk, row)
        desk.say("part 0")
        self.refused(NoLetter, desk, "carry 0")
        self.refused(Down, desk, "carry 1")
        self.refused(NoRow, desk, "look 1 Ab 3")
        self.refused(NoRow, desk, "look 1 ab -1")
        self.refused(NoRow, desk, "fall 1 ")
        self.refused(NoRow, desk, "claim 1 ab Joe")

    def test_rows_that_do_not_ask_whether_a_house_is_down(self):
        desk = self.had()
        logs = [desk.say(f"log {house}") for house in range(3)]
        for house in range(3):
            desk.say(f"fall {house}")
        self.assertEqual([desk.say(f"log {house}") for house in range(3)], logs)
        self.assertEqual(desk.say("who ab"), "0 1 joe")
        self.assertEqual(desk.say("paper ab"), "0:3 1:3")
        self.assertEqual(desk.say("barred ab"), "3")
        self.assertEqual(desk.say("quiet 1"), "ok")
        self.assertEqual(desk.say("yard"), "3")
        self.assertEqual(desk.say("sure 2 ab sue"), "1")
        self.assertEqual(desk.say("who ab"), "2 1 sue")
        self.assertEqual(desk.say("look 0 ab 1"), "sue 2 4")

    def test_what_is_refused_changes_nothing(self):
        desk, other = Desk(), Desk()
        for row in ("claim 0 ab joe", "carry 0", "carry 1", "round", "fall 2", "part 1", "heal", "quiet 2", "rise 2",
                    "sure 2 ab ann"):
            for wrong in ("claim 0 ab joe ", "carry 9", "houses 8 3", "quiet 21", "rise 1", "sure 3 ab joe", None, "now now",
                          "renew 1 cd", "back 1 cd"):
                with self.assertRaises(HouseError):
                    desk.say(wrong)
            self.assertEqual(desk.say(row), other.say(row))
            self.assertEqual(asked(desk), asked(other))


class WorldTest(unittest.TestCase):
    def test_it_tells_of_the_world_that_the_deeds_lead_to(self):
        desk = Desk()
        for row in ("claim 0 ab joe", "claim 1 cd ann", "carry 0", "carry 1"):
            desk.say(row)
        world = run(3, 3, ("claim", 0, "ab", "joe"), ("claim", 1, "cd", "ann"), ("carry", 0), ("carry", 1))
        self.assertEqual([desk.say(f"log {house}") for house in range(3)],
                         ["\n".join(" ".join(map(str, entry)) for entry in log) or "-" for log in world[2]])
        self.assertEqual(desk.say("yard"), str(len(world[6])))


if __name__ == "__main__":
    unittest.main()
