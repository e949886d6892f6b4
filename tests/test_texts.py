"""Point 26: the writing of deeds and logs."""

import itertools
import unittest

from samples import NAMES
from worlds_by_hand import run
from writings import bent, bent_by_words, deed_pattern, is_writing, log_pattern

from onename.errors import HouseError, NoText
from onename.houses import is_deed
from onename.logs import is_log
from onename.quiet import quiet_round
from onename.texts import read_deed, read_log, show_deed, show_log

GREAT = 10 ** 29
GREATEST = 10 ** 30 - 1

DEEDS = (
    (("claim", 0, "ab", "joe"), "claim 0 ab joe"),
    (("claim", 2, "abcdefgh", "z"), "claim 2 abcdefgh z"),
    (("renew", 1, "ab"), "renew 1 ab"),
    (("back", 2, "ab"), "back 2 ab"),
    (("carry", 0), "carry 0"),
    (("carry", 9), "carry 9"),
    (("carry", 10), "carry 10"),
    (("copy", 1), "copy 1"),
    (("lose", 205), "lose 205"),
    (("fall", 0), "fall 0"),
    (("rise", 2), "rise 2"),
    (("part", (0,)), "part 0"),
    (("part", (2,)), "part 2"),
    (("part", (0, 2)), "part 0,2"),
    (("part", (1, 2)), "part 1,2"),
    (("heal",), "heal"),
    (("round",), "round"),
    (("claim", 1, "claim", "heal"), "claim 1 claim heal"),
    (("renew", 0, "round"), "renew 0 round"),
    (("back", 0, "back"), "back 0 back"),
)
ENTRIES = (
    (("ask", "ab", 1, "joe", 3), "ask ab 1 joe 3"),
    (("got", "ab", 1, 0, 3), "got ab 1 0 3"),
    (("no", "ab", 12, 2), "no ab 12 2"),
    (("back", "ab", 1), "back ab 1"),
    (("word", "ab", 2, 1, 10), "word ab 2 1 10"),
    (("free", "ab", 0, 7), "free ab 0 7"),
    (("ask", "ask", 1, "got", 1), "ask ask 1 got 1"),
    (("back", "back", 100), "back back 100"),
    (("word", "free", 0, 1, 1), "word free 0 1 1"),
    (("no", "no", 1, 0), "no no 1 0"),
)


class TextsTest(unittest.TestCase):
    def refused(self, read, many, text):
        with self.assertRaises(HouseError) as caught:
            read(many, text)
        self.assertIs(caught.exception.__class__, NoText, repr(text))

    def looked_at(self, read, show, pattern, many, text):
        """Refused just where the text is no writing; else what is read is written so."""
        if is_writing(pattern, text):
            self.assertEqual(show(read(many, text)), text)
            return True
        self.refused(read, many, text)
        return False


class ShowTest(TextsTest):
    def test_deeds(self):
        for deed, text in DEEDS:
            self.assertEqual(show_deed(deed), text)
        self.assertEqual(show_deed(("part", (0, 1, 2, 3, 4, 6))), "part 0,1,2,3,4,6")

    def test_entries(self):
        for entry, text in ENTRIES:
            self.assertEqual(show_log((entry,)), text)

    def test_logs(self):
        self.assertEqual(show_log(()), "-")
        self.assertEqual(show_log(tuple(entry for entry, text in ENTRIES)), "\n".join(text for entry, text in ENTRIES))
        self.assertEqual(show_log((ENTRIES[0][0], ENTRIES[0][0])), "ask ab 1 joe 3\nask ab 1 joe 3")

    def test_great_numbers(self):
        for number in (GREAT, GREATEST):
            self.assertEqual(show_deed(("carry", number)), "carry " + str(number))
            self.assertEqual(show_log((("word", "ab", 1, number, number),)), f"word ab 1 {number} {number}")


class ReadDeedTest(TextsTest):
    def test_written_and_read_back(self):
        for deed, text in DEEDS:
            self.assertEqual(read_deed(3, text), deed)
            self.assertIs(read_deed(3, text).__class__, tuple)

    def test_every_house_and_side(self):
        for many in range(1, 8):
            deeds = [(kind, house) for kind in ("fall", "rise") for house in range(many)]
            deeds += [(kind, house, "ab") for kind in ("renew", "back") for house in range(many)]
            for length in range(1, many):
                deeds += [("part", side) for side in itertools.combinations(range(many), length)]
            for deed in deeds:
                self.assertTrue(is_deed(many, deed))
                self.assertEqual(read_deed(many, show_deed(deed)), deed)

    def test_names(self):
        for name in NAMES + ("part", "renew", "carry", "round", "who", "none"):
            for person in NAMES:
                self.assertEqual(read_deed(3, f"claim 1 {name} {person}"), ("claim", 1, name, person))

    def test_numbers_of_one_figure_and_of_thirty(self):
        for kind in ("carry", "copy", "lose"):
            for number in list(range(12)) + [99, 100, 101, 10 ** 9, GREAT, GREAT + 1, GREATEST]:
                self.assertEqual(read_deed(3, f"{kind} {number}"), (kind, number))
                for ahead in ("0", "00", "+", "-", " ", "\n", "0x", "1_", "."):
                    self.refused(read_deed, 3, f"{kind} {ahead}{number}")

    def test_a_number_as_long_as_a_text(self):
        for length in (3990, 5000):
            number = 0
            for step in range(length):
                number = number * 10 + 9
            self.assertEqual(read_deed(3, "carry " + "9" * length), ("carry", number))
            self.refused(read_deed, 3, "carry 0" + "9" * length)

    def test_houses_that_are_none(self):
        for many in range(1, 8):
            for house in (many, many + 1, 10, 11, GREAT, -1):
                for text in (f"claim {house} ab joe", f"renew {house} ab", f"back {house} ab", f"fall {house}",
                             f"rise {house}", f"part {house}", f"part 0,{house}"):
                    self.refused(read_deed, many, text)

    def test_houses_of_a_part(self):
        for text in ("part 2,0", "part 1,0", "part 0,0", "part 0,1,1", "part 0,1,2", "part ", "part", "part ,", "part 0,",
                     "part ,0", "part 0,,2", "part 0 2", "part 0, 2", "part 0 ,2", "part (0,2)", "part 0;2", "part 0.2",
                     "part 00", "part 0,02", "part 3", "part 0,3", "part -1", "part 0,1,2,3", "part a", "part 0,a"):
            self.refused(read_deed, 3, text)
        self.refused(read_deed, 1, "part 0")
        self.refused(read_deed, 1, "part ")
        self.refused(read_deed, 7, "part 0,1,2,3,4,5,6")
        self.assertEqual(read_deed(7, "part 0,1,2,3,4,5"), ("part", (0, 1, 2, 3, 4, 5)))

    def test_names_that_are_none(self):
        for name in ("", "abcdefghi", "Ab", "aB", "a1", "1", "a-b", "a_b", "ab,", "~", "`", "{", "a\n", "-"):
            for text in (f"claim 0 {name} joe", f"claim 0 ab {name}", f"renew 0 {name}", f"back 0 {name}"):
                self.refused(read_deed, 3, text)

    def test_other_texts(self):
        for text in ("", " ", "\n", "-", "0", "claim", "Claim 0 ab joe", "claims 0 ab joe", "claim 0 ab", "claim ab 0 joe",
                     "heal 0", "heal heal", "round 1", "Round", "ask ab 1 joe 3", "word ab 0 1 3", "told", "now",
                     "houses 3 3", "('heal',)", "heal\nround", "round,", "a" * 4000, " " * 4000, "heal " * 800,
                     "round\n" * 600):
            self.refused(read_deed, 3, text)

    def test_texts_that_are_bent_by_one_sign(self):
        writings = 0
        for deed, text in DEEDS:
            for other in bent(text):
                writings += self.looked_at(read_deed, show_deed, deed_pattern(3), 3, other)
        self.assertGreater(writings, 500)

    def test_texts_that_are_bent_by_words(self):
        for deed, text in DEEDS:
            for other in bent_by_words(text):
                self.looked_at(read_deed, show_deed, deed_pattern(3), 3, other)
            for many in (1, 2, 4, 7):
                self.looked_at(read_deed, show_deed, deed_pattern(many), many, text)
            self.refused(read_deed, 3, text.upper())
            self.refused(read_deed, 3, text.replace(" ", "  ") + ("" if " " in text else " "))
            self.refused(read_deed, 3, text.replace(" ", "\n") + ("" if " " in text else "\n"))

    def test_all_short_texts_of_houses(self):
        for many in (1, 2, 3, 4):
            for length in range(6):
                for signs in itertools.product("0123,", repeat=length):
                    self.looked_at(read_deed, show_deed, deed_pattern(many), many, "part " + "".join(signs))


class ReadLogTest(TextsTest):
    def test_the_empty_log(self):
        self.assertEqual(read_log(3, "-"), ())
        for text in ("", " ", "--", "- ", " -", "-\n", "\n-", "-\n-", "\n", "\n\n", "()", "0"):
            self.refused(read_log, 3, text)
        for entry, text in ENTRIES:
            self.refused(read_log, 3, "-\n" + text)
            self.refused(read_log, 3, text + "\n-")
            self.refused(read_log, 3, text + "-")

    def test_written_and_read_back(self):
        for entry, text in ENTRIES:
            self.assertEqual(read_log(3, text), (entry,))
        for first, second in itertools.product(ENTRIES, repeat=2):
            self.assertEqual(read_log(3, first[1] + "\n" + second[1]), (first[0], second[0]))
        log = read_log(3, "\n".join(text for entry, text in ENTRIES))
        self.assertEqual(log, tuple(entry for entry, text in ENTRIES))
        self.assertIs(log.__class__, tuple)
        self.assertTrue(all(entry.__class__ is tuple for entry in log))

    def test_logs_of_worlds(self):
        world = run(3, 4, ("claim", 0, "ab", "joe"), ("claim", 1, "ab", "ann"), ("claim", 2, "cd", "sue"))
        world = quiet_round(world)
        for log in world[2]:
            self.assertGreater(len(log), 3)
            self.assertEqual(read_log(3, show_log(log)), log)

    def test_great_numbers(self):
        for number in (1, 9, 10, GREAT, GREATEST):
            for log in ((("ask", "ab", number, "joe", number),), (("got", "ab", number, 1, number),),
                        (("no", "ab", number, 1),), (("back", "ab", number),), (("word", "ab", 1, number, number),),
                        (("free", "ab", 1, number),)):
                self.assertEqual(read_log(3, show_log(log)), log)

    def test_numbers_of_nought(self):
        for text in ("ask ab 0 joe 3", "ask ab 1 joe 0", "got ab 0 0 3", "got ab 1 0 0", "no ab 0 2", "back ab 0",
                     "word ab 2 0 3", "word ab 2 1 0", "free ab 0 0"):
            self.refused(read_log, 3, text)

    def test_houses_that_are_none(self):
        for many in range(1, 8):
            for house in (many, many + 1, 10, GREAT, -1, "00", "01", ""):
                for text in (f"got ab 1 {house} 3", f"no ab 1 {house}", f"word ab {house} 1 3", f"free ab {house} 1"):
                    self.refused(read_log, many, text)
                    self.refused(read_log, many, "ask ab 1 joe 3\n" + text)
            for house in range(many):
                self.assertEqual(read_log(many, f"free ab {house} 1"), (("free", "ab", house, 1),))

    def test_hundreds_of_entries(self):
        log = tuple(("no", "a", number % 9 + 1, number % 3) for number in range(440))
        text = show_log(log)
        self.assertLessEqual(len(text), 4000)
        self.assertEqual(read_log(3, text), log)
        self.refused(read_log, 3, text + "\n")
        self.refused(read_log, 3, "\n" + text)
        self.refused(read_log, 3, text.replace("no a 9 2\n", "no a 9 3\n"))
        thousand = tuple(ENTRIES[at % 10][0] for at in range(1000))
        self.assertEqual(read_log(3, show_log(thousand)), thousand)

    def test_deeds_are_no_entries(self):
        for deed, text in DEEDS:
            self.refused(read_log, 3, text)

    def test_texts_that_are_bent_by_one_sign(self):
        writings = 0
        signs = [" ", "\n", "!", "+", "-", ",", ".", "0", "1", "3", "9", "A", "a", "z", "_", "~"]
        for entry, text in ENTRIES:
            for other in bent(text):
                writings += self.looked_at(read_log, show_log, log_pattern(3), 3, other)
        for other in bent("ask ab 1 joe 3\nword ab 0 1 3\nno ab 1 2", signs):
            writings += self.looked_at(read_log, show_log, log_pattern(3), 3, other)
        self.assertGreater(writings, 500)

    def test_texts_that_are_bent_by_words(self):
        for entry, text in ENTRIES:
            for other in bent_by_words(text):
                self.looked_at(read_log, show_log, log_pattern(3), 3, other)
            for many in (1, 2, 7):
                self.looked_at(read_log, show_log, log_pattern(many), many, text)
        text = "\n".join(text for entry, text in ENTRIES)
        for other in bent_by_words(text, "\n"):
            self.looked_at(read_log, show_log, log_pattern(3), 3, other)

    def test_what_is_read_is_a_log(self):
        for entry, text in ENTRIES:
            self.assertTrue(is_log(3, read_log(3, text)))


if __name__ == "__main__":
    unittest.main()
