"""Worlds for tests: reached by rows of deeds, or written out part by part."""

from onename.worlds import done, world_of


def behind(world, *deeds):
    """The world behind these deeds."""
    for deed in deeds:
        world = done(world, deed)
    return world


def run(many, term, *deeds):
    """The world behind these deeds, from the begin on."""
    return behind(world_of(many, term), *deeds)


def carried(world, kind, sender, to):
    """The world behind the carry of the first such letter of the yard."""
    letters = [letter[:3] for letter in world[6]]
    return done(world, ("carry", letters.index((kind, sender, to))))


def all_carried(world, *letters):
    """The world behind carries of letters (kind, sender, to), one by one."""
    for letter in letters:
        world = carried(world, *letter)
    return world


def written(now, term, logs, notices=None, down=(), side=(), yard=()):
    """A world that is written out."""
    return (now, term, tuple(logs), tuple(notices or [()] * len(logs)), down, side, tuple(yard))


def asked_of(house, others, name, number, person, until):
    """Ask letters of one house to the others."""
    return tuple(("ask", house, other, name, number, person, until) for other in others)
