import unittest

from onename.letters import taken

NOTHING = ((), (), None)
GREAT = 10 ** 29


def ask(sender, to, number, until, name="ab", person="joe"):
    return ("ask", sender, to, name, number, person, until)


class AskTest(unittest.TestCase):
    """House 1 of three takes asks of house 2."""

    def given(self, log, letter, now, until):
        self.assertEqual(taken(3, 1, log, letter, now),
                         ((("word", "ab", 2, letter[4], until),), (("word", 1, 2, "ab", letter[4], until),), None))

    def test_until_not_above_now(self):
        for log in ((), (("word", "ab", 0, 1, 9),), (("word", "ab", 2, 4, 9),), (("word", "ab", 2, 4, 1),)):
            self.assertEqual(taken(3, 1, log, ask(2, 1, 4, 5), 5), NOTHING)
            self.assertEqual(taken(3, 1, log, ask(2, 1, 4, 5), 6), NOTHING)
            self.assertEqual(taken(3, 1, log, ask(2, 1, 4, 1), 1), NOTHING)

    def test_no_word_yet(self):
        self.given((), ask(2, 1, 4, 6), 5, 6)
        self.given((), ask(2, 1, 1, 1), 0, 1)
        self.given((("word", "cd", 0, 1, 90),), ask(2, 1, 4, 6), 5, 6)
        self.given((), ask(2, 1, GREAT, GREAT), GREAT - 1, GREAT)

    def test_a_word_taken_back(self):
        self.given((("word", "ab", 0, 1, 90), ("free", "ab", 0, 1)), ask(2, 1, 4, 6), 5, 6)

    def test_the_person_and_the_log_of_its_own_do_not_matter(self):
        log = (("ask", "ab", 4, "ann", 9), ("got", "ab", 4, 0, 9))
        self.given(log, ask(2, 1, 4, 6, "ab", "sue"), 5, 6)

    def test_a_word_that_ran_out(self):
        self.given((("word", "ab", 0, 1, 5),), ask(2, 1, 4, 6), 5, 6)
        self.given((("word", "ab", 0, 1, 4),), ask(2, 1, 4, 6), 5, 6)
        self.given((("word", "ab", 2, 3, 5),), ask(2, 1, 4, 6), 5, 6)
        self.given((("word", "ab", 2, 4, 5),), ask(2, 1, 4, 6), 5, 6)

    def test_a_running_word_to_another_house(self):
        for number in (3, 4, 5):
            for until in (6, 7, 8):
                self.assertEqual(taken(3, 1, (("word", "ab", 0, number, until),), ask(2, 1, 4, 7), 5),
                                 ((), (("no", 1, 2, "ab", 4),), None))

    def test_a_running_word_to_another_claim_of_the_house(self):
        for number in (3, 5):
            for until in (6, 7, 8):
                self.assertEqual(taken(3, 1, (("word", "ab", 2, number, until),), ask(2, 1, 4, 7), 5),
                                 ((), (("no", 1, 2, "ab", 4),), None))

    def test_a_running_word_to_itself(self):
        self.assertEqual(taken(3, 1, (("word", "ab", 1, 4, 6),), ask(2, 1, 4, 9), 5),
                         ((), (("no", 1, 2, "ab", 4),), None))

    def test_this_very_claim_with_a_lesser_until(self):
        self.given((("word", "ab", 2, 4, 6),), ask(2, 1, 4, 7), 5, 7)
        self.given((("word", "ab", 2, 4, 6),), ask(2, 1, 4, 90), 5, 90)

    def test_this_very_claim_with_no_lesser_until(self):
        for until in (7, 8, 90):
            self.assertEqual(taken(3, 1, (("word", "ab", 2, 4, until),), ask(2, 1, 4, 7), 5),
                             ((), (("word", 1, 2, "ab", 4, until),), None))

    def test_taken_twice(self):
        letter = ask(2, 1, 4, 7)
        entries, letters, notice = taken(3, 1, (), letter, 5)
        self.assertEqual(taken(3, 1, entries, letter, 5), ((), letters, None))
        self.assertEqual(taken(3, 1, entries, letter, 6), ((), letters, None))
        self.assertEqual(taken(3, 1, entries, letter, 7), NOTHING)


class WordTest(unittest.TestCase):
    """House 1 takes words for its claim."""

    LOG = (("ask", "ab", 4, "joe", 9),)

    def got(self, log, letter, now, many=3):
        """A got entry and nothing else."""
        self.assertEqual(taken(many, 1, log, letter, now),
                         ((("got", "ab", letter[4], letter[1], letter[5]),), (), None))

    def noticed(self, log, letter, now, many=3):
        others = [other for other in range(many) if other != 1]
        self.assertEqual(taken(many, 1, log, letter, now),
                         ((("got", "ab", letter[4], letter[1], letter[5]),),
                          tuple([("told", 1, other, "ab", letter[4], "joe", now) for other in others]),
                          ("ab", 1, letter[4], "joe", now)))

    def test_no_claim_with_this_number(self):
        answer = ((), (("back", 1, 2, "ab", 4),), None)
        for log in ((), (("ask", "cd", 4, "joe", 9),), (("ask", "ab", 3, "joe", 9),), (("ask", "ab", 5, "joe", 9),),
                    self.LOG + (("ask", "ab", 5, "joe", 9),), self.LOG + (("back", "ab", 4),),
                    (("ask", "ab", 3, "joe", 9), ("ask", "ab", 4, "joe", 9), ("back", "ab", 4)),
                    (("got", "ab", 4, 0, 9), ("word", "ab", 1, 4, 9))):
            for now in (0, 8, 9, 10):
                self.assertEqual(taken(3, 1, log, ("word", 2, 1, "ab", 4, 9), now), answer, log)

    def test_too_few_words(self):
        self.got(self.LOG, ("word", 2, 1, "ab", 4, 9), 5)
        self.got(self.LOG + (("got", "ab", 4, 1, 9), ("got", "ab", 4, 0, 9)), ("word", 2, 1, "ab", 4, 9), 5, 7)
        self.got(self.LOG + (("got", "ab", 4, 1, 9),), ("word", 2, 1, "ab", 4, 9), 5, 4)

    def test_the_needed_words_reach_above_now_for_the_first_time(self):
        self.noticed(self.LOG + (("got", "ab", 4, 1, 9),), ("word", 2, 1, "ab", 4, 9), 5)
        self.noticed(self.LOG + (("got", "ab", 4, 1, 9),), ("word", 2, 1, "ab", 4, 9), 8)
        self.noticed(self.LOG + (("got", "ab", 4, 1, 9),), ("word", 0, 1, "ab", 4, 6), 5)
        self.noticed(self.LOG + (("got", "ab", 4, 0, 9),), ("word", 2, 1, "ab", 4, 9), 0)
        self.noticed(self.LOG + (("got", "ab", 4, 1, 9),), ("word", 0, 1, "ab", 4, 9), 5, 2)

    def test_at_seven_houses(self):
        log = self.LOG + (("got", "ab", 4, 1, 9), ("got", "ab", 4, 5, 9))
        self.got(log, ("word", 6, 1, "ab", 4, 9), 5, 7)
        log = log + (("got", "ab", 4, 6, 9),)
        self.noticed(log, ("word", 0, 1, "ab", 4, 9), 5, 7)
        self.assertEqual([letter[2] for letter in taken(7, 1, log, ("word", 0, 1, "ab", 4, 9), 5)[1]],
                         [0, 2, 3, 4, 5, 6])

    def test_words_of_other_claims_do_not_count(self):
        log = self.LOG + (("got", "ab", 3, 1, 9), ("got", "cd", 4, 1, 9), ("got", "ab", 5, 1, 9))
        self.got(log, ("word", 2, 1, "ab", 4, 9), 5)

    def test_noes_do_not_count(self):
        self.got(self.LOG + (("no", "ab", 4, 1), ("no", "ab", 4, 0)), ("word", 2, 1, "ab", 4, 9), 5)

    def test_a_word_behind_a_no(self):
        self.noticed(self.LOG + (("got", "ab", 4, 1, 9), ("no", "ab", 4, 2)), ("word", 2, 1, "ab", 4, 9), 5)

    def test_a_house_counts_once(self):
        self.got(self.LOG + (("got", "ab", 4, 2, 7),), ("word", 2, 1, "ab", 4, 9), 5)
        self.got(self.LOG + (("got", "ab", 4, 2, 7), ("got", "ab", 4, 2, 8)), ("word", 2, 1, "ab", 4, 9), 5)

    def test_the_needed_words_reach_farther(self):
        log = self.LOG + (("got", "ab", 4, 1, 9), ("got", "ab", 4, 2, 7))
        self.noticed(log, ("word", 2, 1, "ab", 4, 8), 5)
        self.noticed(log, ("word", 0, 1, "ab", 4, 8), 5)
        self.noticed(log, ("word", 2, 1, "ab", 4, 90), 5)
        self.noticed(log, ("word", 2, 1, "ab", 4, 8), 7)

    def test_the_needed_words_reach_no_farther(self):
        log = self.LOG + (("got", "ab", 4, 1, 9), ("got", "ab", 4, 2, 7))
        self.got(log, ("word", 0, 1, "ab", 4, 7), 5)
        self.got(log, ("word", 0, 1, "ab", 4, 6), 5)
        self.got(log, ("word", 0, 1, "ab", 4, 1), 5)
        log = self.LOG + (("got", "ab", 4, 1, 7), ("got", "ab", 4, 2, 7))
        self.got(log, ("word", 2, 1, "ab", 4, 9), 5)

    def test_farther_but_not_above_now(self):
        log = self.LOG + (("got", "ab", 4, 1, 9), ("got", "ab", 4, 2, 3))
        self.got(log, ("word", 2, 1, "ab", 4, 4), 5)
        self.got(log, ("word", 2, 1, "ab", 4, 5), 5)
        self.noticed(log, ("word", 2, 1, "ab", 4, 6), 5)
        self.got(self.LOG + (("got", "ab", 4, 1, 5),), ("word", 2, 1, "ab", 4, 9), 5)

    def test_as_great_an_until(self):
        for until in (7, 8, 90):
            log = self.LOG + (("got", "ab", 4, 1, 9), ("got", "ab", 4, 2, until))
            self.assertEqual(taken(3, 1, log, ("word", 2, 1, "ab", 4, 7), 5), NOTHING)
        log = self.LOG + (("got", "ab", 4, 2, 7), ("got", "ab", 4, 2, 5))
        self.assertEqual(taken(3, 1, log, ("word", 2, 1, "ab", 4, 6), 4), NOTHING)

    def test_as_great_an_until_of_another_house_or_claim(self):
        self.noticed(self.LOG + (("got", "ab", 4, 0, 90),), ("word", 2, 1, "ab", 4, 7), 5)
        self.got(self.LOG + (("got", "ab", 3, 2, 90), ("got", "cd", 4, 2, 90)), ("word", 2, 1, "ab", 4, 7), 5)

    def test_the_person_is_that_of_the_last_ask(self):
        log = (("ask", "ab", 4, "ann", 9), ("got", "ab", 4, 1, 9), ("ask", "ab", 4, "joe", 9))
        self.noticed(log, ("word", 2, 1, "ab", 4, 9), 5)

    def test_the_own_until_sets_no_bound(self):
        self.noticed((("ask", "ab", 4, "joe", 5), ("got", "ab", 4, 1, 9)), ("word", 2, 1, "ab", 4, 9), 7)

    def test_great_numbers(self):
        log = (("ask", "ab", GREAT, "joe", GREAT), ("got", "ab", GREAT, 1, GREAT))
        self.noticed(log, ("word", 2, 1, "ab", GREAT, GREAT), GREAT - 1)
        self.got(log, ("word", 2, 1, "ab", GREAT, GREAT), GREAT)

    def test_taken_twice(self):
        log = self.LOG + (("got", "ab", 4, 1, 9),)
        letter = ("word", 2, 1, "ab", 4, 9)
        entries = taken(3, 1, log, letter, 5)[0]
        for now in (5, 6, 9, 10):
            self.assertEqual(taken(3, 1, log + entries, letter, now), NOTHING)


class NoTest(unittest.TestCase):
    LOG = (("ask", "ab", 4, "joe", 9),)
    LETTER = ("no", 2, 1, "ab", 4)

    def test_to_its_claim(self):
        for log in (self.LOG, self.LOG + (("no", "ab", 4, 0), ("got", "ab", 4, 1, 9)),
                    self.LOG + (("no", "ab", 3, 2), ("got", "ab", 3, 2, 9), ("no", "cd", 4, 2), ("got", "cd", 4, 2, 9))):
            for now in (0, 8, 9, 10):
                self.assertEqual(taken(3, 1, log, self.LETTER, now), ((("no", "ab", 4, 2),), (), None))

    def test_to_no_such_claim(self):
        for log in ((), (("ask", "ab", 3, "joe", 9),), (("ask", "ab", 5, "joe", 9),), (("ask", "cd", 4, "joe", 9),),
                    self.LOG + (("ask", "ab", 5, "joe", 9),), self.LOG + (("back", "ab", 4),)):
            self.assertEqual(taken(3, 1, log, self.LETTER, 5), NOTHING)

    def test_a_word_or_a_no_of_it_is_there(self):
        for entry in (("no", "ab", 4, 2), ("got", "ab", 4, 2, 9), ("got", "ab", 4, 2, 1)):
            for now in (0, 5, 10):
                self.assertEqual(taken(3, 1, self.LOG + (entry,), self.LETTER, now), NOTHING)

    def test_taken_twice(self):
        entries = taken(3, 1, self.LOG, self.LETTER, 5)[0]
        self.assertEqual(taken(3, 1, self.LOG + entries, self.LETTER, 5), NOTHING)


class BackTest(unittest.TestCase):
    LETTER = ("back", 2, 1, "ab", 4)

    def test_its_word_is_to_this_very_claim(self):
        for log in ((("word", "ab", 2, 4, 5),), (("word", "ab", 0, 1, 9), ("word", "ab", 2, 4, 5)),
                    (("word", "ab", 2, 4, 5), ("word", "cd", 0, 1, 9), ("free", "ab", 2, 3))):
            for now in (4, 5, 6):
                self.assertEqual(taken(3, 1, log, self.LETTER, now), ((("free", "ab", 2, 4),), (), None))

    def test_its_word_is_to_none_or_another(self):
        for log in ((), (("word", "ab", 0, 4, 5),), (("word", "ab", 2, 3, 5),), (("word", "ab", 2, 5, 5),),
                    (("word", "cd", 2, 4, 5),), (("word", "ab", 2, 4, 5), ("free", "ab", 2, 4)),
                    (("word", "ab", 2, 4, 5), ("word", "ab", 0, 1, 9)), (("ask", "ab", 4, "joe", 9),)):
            for now in (4, 5, 6):
                self.assertEqual(taken(3, 1, log, self.LETTER, now), NOTHING)

    def test_taken_twice(self):
        log = (("word", "ab", 2, 4, 5),)
        entries = taken(3, 1, log, self.LETTER, 4)[0]
        self.assertEqual(taken(3, 1, log + entries, self.LETTER, 4), NOTHING)


class ToldTest(unittest.TestCase):
    def test_a_notice_of_the_letter(self):
        for log in ((), (("ask", "ab", 4, "ann", 9),), (("word", "ab", 2, 4, 5),)):
            for now in (0, 6, 7, 8, GREAT):
                for noticed in (0, 7, GREAT):
                    self.assertEqual(taken(3, 1, log, ("told", 2, 1, "ab", 4, "joe", noticed), now),
                                     ((), (), ("ab", 2, 4, "joe", noticed)))

    def test_taken_twice(self):
        letter = ("told", 2, 1, "ab", 4, "joe", 7)
        self.assertEqual(taken(3, 1, (), letter, 7), taken(3, 1, (), letter, 9))


class KindsTest(unittest.TestCase):
    def test_tuples_are_told(self):
        log = (("ask", "ab", 4, "joe", 9), ("got", "ab", 4, 1, 9), ("word", "cd", 2, 1, 9))
        for letter in (ask(2, 1, 4, 9), ask(2, 1, 4, 5), ask(2, 1, 1, 9, "cd"), ask(0, 1, 1, 9, "cd"),
                       ("word", 2, 1, "ab", 4, 9), ("word", 2, 1, "ab", 4, 1), ("word", 2, 1, "ab", 3, 9),
                       ("no", 2, 1, "ab", 4), ("no", 2, 1, "ab", 3), ("back", 2, 1, "cd", 1), ("back", 2, 1, "cd", 2),
                       ("told", 2, 1, "ab", 4, "joe", 0)):
            told = taken(3, 1, log, letter, 5)
            self.assertEqual([told.__class__, len(told)], [tuple, 3])
            entries, letters, notice = told
            self.assertEqual([entries.__class__, letters.__class__], [tuple, tuple])
            for part in entries + letters:
                self.assertIs(part.__class__, tuple)
            self.assertTrue(notice is None or notice.__class__ is tuple and len(notice) == 5)

    def test_what_is_handed_in_stays_as_it_was(self):
        log = (("ask", "ab", 4, "joe", 9), ("got", "ab", 4, 1, 9))
        letter = ("word", 2, 1, "ab", 4, 9)
        first = taken(3, 1, log, letter, 5)
        self.assertEqual(log, (("ask", "ab", 4, "joe", 9), ("got", "ab", 4, 1, 9)))
        self.assertEqual(letter, ("word", 2, 1, "ab", 4, 9))
        self.assertEqual(taken(3, 1, log, letter, 5), first)

    def test_a_log_of_hundreds_of_entries(self):
        log = ()
        for number in range(1, 150):
            log += (("ask", "ab", number, "joe", number + 3), ("got", "ab", number, 1, number + 3),
                    ("word", "cd", 2, number, number + 3), ("no", "ab", number, 0))
        told = taken(3, 1, log, ("word", 2, 1, "ab", 149, 152), 150)
        self.assertEqual(told[0], (("got", "ab", 149, 2, 152),))
        self.assertEqual(told[2], ("ab", 1, 149, "joe", 150))
        self.assertEqual(taken(3, 1, log, ask(0, 1, 1, 153, "cd"), 151), ((), (("no", 1, 0, "cd", 1),), None))
        self.assertEqual(taken(3, 1, log, ask(0, 1, 1, 153, "cd"), 152)[0], (("word", "cd", 0, 1, 153),))


if __name__ == "__main__":
    unittest.main()
