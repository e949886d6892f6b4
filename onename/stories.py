"""Stories: deeds from the begin on, with what is so behind each, and the spells for which claims have names."""

from onename.errors import Busy, Down, NoClaim, NoDeed, NoLetter, Up
from onename.holders import holders_in
from onename.houses import is_whole
from onename.worlds import done, world_of


def tried(world, deed):
    """The world behind a deed and None, or the world as it was and the refusal's name."""
    try:
        return (done(world, deed), None)
    except NoDeed:
        return (world, "NoDeed")
    except NoLetter:
        return (world, "NoLetter")
    except Down:
        return (world, "Down")
    except Up:
        return (world, "Up")
    except Busy:
        return (world, "Busy")
    except NoClaim:
        return (world, "NoClaim")


def told_behind(world, refusal):
    """What a story tells behind a deed: the refusal's name, or (name, house, person) of each name that is had."""
    if refusal is not None:
        return refusal
    return tuple([(name, house, person) for name, house, number, person in holders_in(world)])


def with_own_lists(thing):
    """The same thing, but with lists of its own: what is no deed may have some, and the asker keeps those."""
    if isinstance(thing, dict):
        return {key: with_own_lists(thing[key]) for key in thing}
    if not isinstance(thing, (list, tuple)):
        return thing
    parts = []
    for part in thing:
        parts.append(with_own_lists(part))
    return parts if isinstance(thing, list) else tuple(parts)


def story_of(many, term, deeds):
    """The story of these deeds: (deed, told) of each."""
    world = world_of(many, term)
    story = []
    for deed in deeds:
        world, refusal = tried(world, deed)
        story.append((with_own_lists(deed), told_behind(world, refusal)))
    return story


def is_same(thing, told):
    """Whether anything is just what is told, by its kinds too: Python takes True for 1."""
    if isinstance(told, str):
        return isinstance(thing, str) and thing == told
    if not isinstance(told, tuple):
        return is_whole(thing) and thing == told
    if not isinstance(thing, tuple) or len(thing) != len(told):
        return False
    return all([is_same(part, due) for part, due in zip(thing, told)])


def first_wrong(many, term, story):
    """The place of the first part of a story that isn't so, or None."""
    world = world_of(many, term)
    for place, part in enumerate(story):
        if not isinstance(part, tuple) or len(part) != 2:
            return place
        deed, told = part
        world, refusal = tried(world, deed)
        if not is_same(told, told_behind(world, refusal)):
            return place
    return None


def spells_of(many, term, deeds):
    """The spells for which claims have names: (name, house, number, person, from, to) of each, sorted."""
    world = world_of(many, term)
    begun = {}
    spells = []
    for at, deed in enumerate(deeds, start=1):
        world, refusal = tried(world, deed)
        holders = {holder: True for holder in holders_in(world)}
        for holder in list(begun):
            if holder not in holders:
                spells.append((*holder, begun.pop(holder), at))
        for holder in holders:
            begun.setdefault(holder, at)
    spells.extend([(*holder, begun[holder], None) for holder in begun])
    return sorted(spells, key=lambda spell: spell[:5])
