"""Who has a name, and the paper of words that shows it."""

from onename.houses import are_parts, needed
from onename.letters import reach_of_words
from onename.logs import claim_in, word_in
from onename.worlds import LOGS, NOW, many_of

# What stands ahead of a paper's words; is_part of onename.houses says what the kinds mean.
PAPER_PARTS = ("name", "house", "number", "name")
WORD_PARTS = ("house", "number")


def has_its_name(world, claim):
    """Whether a house's claim, which may be None, has its name."""
    return claim is not None and reach_of_words(claim[3], many_of(world)) > world[NOW]


def claim_with_name(world, name):
    """The house and the claim that has a name: (house, claim), or None."""
    for house, log in enumerate(world[LOGS]):
        claim = claim_in(log, name)
        if has_its_name(world, claim):
            return (house, claim)
    return None


def holder_of(world, name):
    """Who has a name: (house, number, person), or None."""
    found = claim_with_name(world, name)
    if found is None:
        return None
    house, claim = found
    return (house, claim[0], claim[1])


def logs_by_names(log):
    """For each name in a log its entries alone, so that a log of many names is gone through once for all of them."""
    logs = {}
    for entry in log:
        logs.setdefault(entry[1], []).append(entry)
    return logs


def holders_in(world):
    """All claims that have their names: (name, house, number, person) of each, by names."""
    holders = []
    for house, log in enumerate(world[LOGS]):
        for name, entries in logs_by_names(log).items():
            claim = claim_in(entries, name)
            if has_its_name(world, claim):
                holders.append((name, house, claim[0], claim[1]))
    return sorted(holders)


def paper_for(world, name):
    """The paper of who has a name, with all words that still reach above now, or None."""
    found = claim_with_name(world, name)
    if found is None:
        return None
    house, claim = found
    words = [word for word in claim[3] if word[1] > world[NOW]]
    return (name, house, claim[0], claim[1], tuple(words))


def are_words(many, thing):
    """Whether it is a tuple of words (house, until), rising, each of another house."""
    if not isinstance(thing, tuple):
        return False
    if not all([isinstance(word, tuple) and are_parts(many, WORD_PARTS, word) for word in thing]):
        return False
    houses = [house for house, until in thing]
    return houses == sorted(set(houses))


def is_paper(many, thing):
    """Whether anything is a paper, by the kinds of its parts."""
    if not isinstance(thing, tuple) or not are_parts(many, PAPER_PARTS, thing[:-1]):
        return False
    return are_words(many, thing[-1])


def is_asked(log, name, number, person):
    """Whether a log asks for this claim and does not give it back."""
    asks = [entry[:4] for entry in log]
    return ("ask", name, number, person) in asks and ("back", name, number) not in log


def is_kept(world, name, claim, given):
    """Whether a house keeps its word to a claim (house, number) as far as a paper says, and above now."""
    giver, until = given
    word = word_in(world[LOGS][giver], name)
    return word is not None and word[:2] == claim and world[NOW] < until <= word[2]


def paper_shows(world, paper):
    """Whether anything is a paper that is let by in this world."""
    if not is_paper(many_of(world), paper):
        return False
    name, house, number, person, words = paper
    if len(words) < needed(many_of(world)) or not is_asked(world[LOGS][house], name, number, person):
        return False
    return all([is_kept(world, name, (house, number), word) for word in words])
