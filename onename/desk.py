"""The desk: it has a world, is told rows and answers each by a text."""

from onename.errors import NoRow, NoText
from onename.holders import holder_of, paper_for
from onename.houses import is_house, is_many, is_name, is_term
from onename.looks import look_up
from onename.quiet import barred_for, claimed_surely, quiet_rounds
from onename.texts import is_number_text, number_of, read_deed, show_log, show_words
from onename.worlds import LOGS, NOW, YARD, done, many_of, world_of

FIRST_MANY = 3
FIRST_TERM = 3
MOST_ROUNDS = 20
MOST_FIGURES = 9

DONE = "ok"
NONE = "none"

# What stands behind each row's first word; is_row_part says what the kinds mean. All other rows are deeds.
ROW_PARTS = {
    "houses": ("many", "term"),
    "who": ("name",),
    "look": ("house", "name", "age"),
    "paper": ("name",),
    "log": ("house",),
    "now": (),
    "yard": (),
    "barred": ("name",),
    "quiet": ("rounds",),
    "sure": ("house", "name", "name"),
}


def is_row_part(many, kind, part):
    """Whether a text or a number may stand where a part of this kind is due; an age may be any number."""
    if kind == "name":
        return is_name(part)
    if kind == "house":
        return is_house(many, part)
    if kind == "many":
        return is_many(part)
    if kind == "term":
        return is_term(part)
    return kind == "age" or part <= MOST_ROUNDS


def number_in_row(word):
    """The number that a word of a row writes."""
    if len(word) > MOST_FIGURES or not is_number_text(word):
        raise NoRow("this writes no number, or one that is too long")
    return number_of(word)


def read_row_part(many, kind, word):
    """The part of this kind that a word of a row writes."""
    part = word if kind == "name" else number_in_row(word)
    if not is_row_part(many, kind, part):
        raise NoRow("a part of this row is none")
    return part


def read_row_parts(many, words):
    """The parts that stand behind a row's first word."""
    kinds = ROW_PARTS[words[0]]
    if len(words) != len(kinds) + 1:
        raise NoRow("this row has too many words, or too few")
    return [read_row_part(many, kind, word) for kind, word in zip(kinds, words[1:])]


def read_row_deed(many, row):
    """The deed that a whole row writes."""
    try:
        return read_deed(many, row)
    except NoText:
        raise NoRow("there is no such row") from None


def shown(parts):
    """The parts with blanks between, or that there is none."""
    return NONE if parts is None else show_words(parts)


def say_houses(world, many, term):
    """Begin anew."""
    return (world_of(many, term), DONE)


def say_who(world, name):
    """Tell who has a name."""
    return (world, shown(holder_of(world, name)))


def say_look(world, house, name, age):
    """Tell what a house knows of a name."""
    return (world, shown(look_up(world, house, name, age)))


def say_paper(world, name):
    """Tell the words of the paper for a name."""
    paper = paper_for(world, name)
    if paper is None:
        return (world, NONE)
    return (world, " ".join([f"{house}:{until}" for house, until in paper[4]]))


def say_log(world, house):
    """Tell a house's log."""
    return (world, show_log(world[LOGS][house]))


def say_now(world):
    """Tell the round."""
    return (world, str(world[NOW]))


def say_yard(world):
    """Tell how many letters are on their way."""
    return (world, str(len(world[YARD])))


def say_barred(world, name):
    """Tell for how many rounds a name is barred."""
    return (world, str(barred_for(world, name)))


def say_quiet(world, rounds):
    """Let quiet rounds pass."""
    return (quiet_rounds(world, rounds), DONE)


def say_sure(world, house, name, person):
    """Claim a name surely and tell the claim's number."""
    world, number = claimed_surely(world, house, name, person)
    return (world, str(number))


ROWS = {
    "houses": say_houses,
    "who": say_who,
    "look": say_look,
    "paper": say_paper,
    "log": say_log,
    "now": say_now,
    "yard": say_yard,
    "barred": say_barred,
    "quiet": say_quiet,
    "sure": say_sure,
}


def answered(world, row):
    """The world behind a row, and the answer to it: (world, text)."""
    if not isinstance(row, str):
        raise NoRow("a row is a text")
    words = row.split(" ")
    if words[0] not in ROWS:
        return (done(world, read_row_deed(many_of(world), row)), DONE)
    parts = read_row_parts(many_of(world), words)
    action = ROWS[words[0]]
    return action(world, *parts)


class Desk:
    """A desk with a world of its own."""

    def __init__(self):
        self.world = world_of(FIRST_MANY, FIRST_TERM)

    def say(self, row):
        """The answer to a row; the world changes only where nothing was refused."""
        world, answer = answered(self.world, row)
        self.world = world
        return answer
