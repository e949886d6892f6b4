"""Worlds: all that is so at a moment, and the deeds that tell another world of one."""

from onename.claims import asked, given_back
from onename.errors import Busy, Down, NoClaim, NoDeed, NoLetter, Up
from onename.houses import is_deed, is_many, is_term
from onename.letters import taken
from onename.logs import claim_in, next_number

# The places of a world's parts.
NOW = 0
TERM = 1
LOGS = 2
NOTICES = 3
DOWN = 4
SIDE = 5
YARD = 6


def world_of(many, term):
    """The world of so many houses at its begin."""
    if not is_many(many) or not is_term(term):
        raise NoDeed("there can't be so many houses, or no such term")
    return (0, term, ((),) * many, ((),) * many, (), (), ())


def many_of(world):
    """How many houses a world has."""
    return len(world[LOGS])


def replaced(parts, at, part):
    """The tuple with another part in this place."""
    return parts[:at] + (part,) + parts[at + 1:]


def left_out(parts, at):
    """The tuple without the part in this place."""
    return parts[:at] + parts[at + 1:]


def noticed(notices, notice):
    """A house's notices, by names, with this one in the place of one of its name that is not newer."""
    if any([other[0] == notice[0] and other[4] > notice[4] for other in notices]):
        return notices
    others = [other for other in notices if other[0] != notice[0]]
    return tuple(sorted(others + [notice]))


def acted(world, house, told):
    """The world in which a house's entries, letters and notice are put where they belong."""
    entries, letters, notice = told
    logs = replaced(world[LOGS], house, world[LOGS][house] + entries)
    world = replaced(world, LOGS, logs)
    world = replaced(world, YARD, world[YARD] + letters)
    if notice is None:
        return world
    notices = noticed(world[NOTICES][house], notice)
    return replaced(world, NOTICES, replaced(world[NOTICES], house, notices))


def is_parted(world, letter):
    """Whether the parting stands between the two houses of a letter."""
    return (letter[1] in world[SIDE]) != (letter[2] in world[SIDE])


def can_be_carried(world, letter):
    """Whether a letter of the yard can be carried; whether its sender is down does not matter."""
    return letter[2] not in world[DOWN] and not is_parted(world, letter)


def letter_at(world, place):
    """The letter in this place of the yard."""
    if place >= len(world[YARD]):
        raise NoLetter("the yard has no such letter")
    return world[YARD][place]


def refuse_down(world, house):
    """Refuse what only a house that is up can do."""
    if house in world[DOWN]:
        raise Down("the house is down")


def running_claim(world, house, name):
    """The house's claim of a name, where its until is above now, else None."""
    claim = claim_in(world[LOGS][house], name)
    if claim is None or claim[2] <= world[NOW]:
        return None
    return claim


def needed_claim(world, house, name):
    """The house's running claim of a name, for deeds that can't be done without one."""
    refuse_down(world, house)
    claim = running_claim(world, house, name)
    if claim is None:
        raise NoClaim("the house has no running claim of this name")
    return claim


def ask_for(world, house, name, number, person):
    """The world in which a house asks for its claim with this number, for a whole term from now on."""
    ask = ("ask", name, number, person, world[NOW] + world[TERM])
    return acted(world, house, asked(many_of(world), house, world[LOGS][house], ask, world[NOW]))


def do_claim(world, deed):
    """Claim a name anew."""
    kind, house, name, person = deed
    refuse_down(world, house)
    if running_claim(world, house, name) is not None:
        raise Busy("the house's claim of this name still runs")
    return ask_for(world, house, name, next_number(world[LOGS][house]), person)


def do_renew(world, deed):
    """Ask for a claim once more, so that it reaches farther."""
    kind, house, name = deed
    claim = needed_claim(world, house, name)
    return ask_for(world, house, name, claim[0], claim[1])


def do_back(world, deed):
    """Give a claim back."""
    kind, house, name = deed
    claim = needed_claim(world, house, name)
    return acted(world, house, given_back(many_of(world), house, world[LOGS][house], name, claim[0]))


def do_carry(world, deed):
    """Carry a letter to its house, which takes it."""
    kind, place = deed
    letter = letter_at(world, place)
    house = letter[2]
    refuse_down(world, house)
    if is_parted(world, letter):
        raise NoLetter("the parting stands between the houses of this letter")
    told = taken(many_of(world), house, world[LOGS][house], letter, world[NOW])
    return acted(replaced(world, YARD, left_out(world[YARD], place)), house, told)


def do_copy(world, deed):
    """Put a letter behind the yard once more."""
    kind, place = deed
    return replaced(world, YARD, world[YARD] + (letter_at(world, place),))


def do_lose(world, deed):
    """Take a letter out of the yard, to nobody."""
    kind, place = deed
    letter_at(world, place)
    return replaced(world, YARD, left_out(world[YARD], place))


def do_fall(world, deed):
    """Take a house down: its log stays, its notices are gone."""
    kind, house = deed
    refuse_down(world, house)
    world = replaced(world, DOWN, tuple(sorted(world[DOWN] + (house,))))
    return replaced(world, NOTICES, replaced(world[NOTICES], house, ()))


def do_rise(world, deed):
    """Bring a house up again."""
    kind, house = deed
    if house not in world[DOWN]:
        raise Up("the house is up")
    return replaced(world, DOWN, left_out(world[DOWN], world[DOWN].index(house)))


def do_part(world, deed):
    """Part these houses from the others, in the place of an elder parting."""
    return replaced(world, SIDE, deed[1])


def do_heal(world, deed):
    """End the parting."""
    return replaced(world, SIDE, ())


def do_round(world, deed):
    """Let a round pass."""
    return replaced(world, NOW, world[NOW] + 1)


DEEDS = {
    "claim": do_claim,
    "renew": do_renew,
    "back": do_back,
    "carry": do_carry,
    "copy": do_copy,
    "lose": do_lose,
    "fall": do_fall,
    "rise": do_rise,
    "part": do_part,
    "heal": do_heal,
    "round": do_round,
}


def done(world, deed):
    """The world that comes of a deed."""
    if not is_deed(many_of(world), deed):
        raise NoDeed("this is no deed here")
    action = DEEDS[deed[0]]
    return action(world, deed)
