"""Quiet rounds, in which all letters come that can, and the claim that is sure behind them."""

from onename.errors import NoDeed
from onename.houses import is_deed
from onename.logs import next_number, word_in
from onename.worlds import DOWN, LOGS, NOW, TERM, YARD, can_be_carried, done, many_of, replaced


def settled(world):
    """Carry the first letter that can be carried, as long as there is one."""
    place = 0
    while place < len(world[YARD]):
        if can_be_carried(world, world[YARD][place]):
            world = done(world, ("carry", place))
        else:
            # No carrying changes the parting or who is down, so what stays back here stays back for good.
            place += 1
    return world


def quiet_round(world):
    """Carry all that can be carried, then let a round pass."""
    return done(settled(world), ("round",))


def quiet_rounds(world, rounds):
    """Let so many quiet rounds pass."""
    if rounds == 0:
        return world
    # Behind the first one no letter is left that can be carried, so of the others only the rounds are to be seen.
    return replaced(settled(world), NOW, world[NOW] + rounds)


def untils_of(world, name):
    """The untils of all words of a name and of all ask letters that may yet get a word of it."""
    words = [word_in(log, name) for log in world[LOGS]]
    asks = [letter for letter in world[YARD] if letter[0] == "ask" and letter[3] == name]
    return [word[2] for word in words if word is not None] + [ask[6] for ask in asks]


def barred_for(world, name):
    """For how many rounds from now a name may be barred, 0 where it is not."""
    return max([until - world[NOW] for until in untils_of(world, name)] + [0])


def all_up(world):
    """The net heals and all who are down rise."""
    down = world[DOWN]
    world = done(world, ("heal",))
    for house in down:
        world = done(world, ("rise", house))
    return world


def claimed_surely(world, house, name, person):
    """A claim that is sure to have the name, behind enough quiet rounds: (world, number)."""
    deed = ("claim", house, name, person)
    if not is_deed(many_of(world), deed):
        raise NoDeed("the house, the name or the person is none")
    world = quiet_rounds(all_up(world), world[TERM])
    number = next_number(world[LOGS][house])
    return (quiet_round(done(world, deed)), number)
