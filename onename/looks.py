"""Look-ups: what a house was noticed of, and how old that is."""

from onename.errors import NoDeed
from onename.houses import is_house, is_name, is_whole
from onename.worlds import LOGS, NOTICES, NOW, many_of, refuse_down


def notice_in(notices, name):
    """The notice of a name among a house's notices, or None."""
    for notice in notices:
        if notice[0] == name:
            return notice
    return None


def age_in(world, notices, name):
    """How many rounds ago a house's notice of a name was so, or None."""
    notice = notice_in(notices, name)
    if notice is None:
        return None
    return world[NOW] - notice[4]


def is_age(thing):
    """Whether a notice may be so old."""
    return is_whole(thing) and thing >= 0


def look_up(world, house, name, age):
    """Who had a name, as far as this house knows of it from within the age: (person, house, round), or None."""
    if not is_house(many_of(world), house) or not is_name(name) or not is_age(age):
        raise NoDeed("the house, the name or the age is none")
    refuse_down(world, house)
    notice = notice_in(world[NOTICES][house], name)
    if notice is None or world[NOW] - notice[4] > age:
        return None
    return (notice[3], notice[1], notice[4])


def ages_of(world, name):
    """The age of each house's notice of a name, or None, in the order of the houses."""
    return [age_in(world, notices, name) for notices in world[NOTICES]]
