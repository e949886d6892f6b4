"""All runs of a small world: which worlds some deeds lead to, and by which row of them."""

from onename.errors import HouseError, TooMany
from onename.holders import holder_of
from onename.worlds import done

# So many worlds are gone through, the first one counted.
MOST_WORLDS = 2000


def world_behind(world, deed):
    """The world that comes of a deed, or None where it is refused."""
    try:
        return done(world, deed)
    except HouseError:
        return None


def steps_from(world, deeds):
    """The deeds that can be done in a world, by their places, each with what comes of it: (deed, world)."""
    steps = [(deed, world_behind(world, deed)) for deed in deeds]
    return [step for step in steps if step[1] is not None]


def runs_from(world, deeds, most):
    """By breadth each world as it is found, with the first of the shortest rows of deeds to it: (world, row)."""
    found = {world: True}
    edge = [(world, ())]
    yield (world, ())
    for step in range(most):
        new = []
        for ahead, row in edge:
            for deed, behind in steps_from(ahead, deeds):
                if behind in found:
                    continue
                if len(found) == MOST_WORLDS:
                    raise TooMany("there are more worlds than are gone through")
                found[behind] = True
                new.append((behind, row + (deed,)))
                yield (behind, row + (deed,))
        edge = new


def worlds_found(world, deeds, most):
    """How many worlds are new at each number of deeds, from 0 to the most."""
    counts = [0] * (most + 1)
    for found, row in runs_from(world, deeds, most):
        counts[len(row)] += 1
    return counts


def shortest_row(world, deeds, most, name, house):
    """The first of the shortest rows of deeds behind which the house has the name, or None."""
    for found, row in runs_from(world, deeds, most):
        holder = holder_of(found, name)
        if holder is not None and holder[0] == house:
            return list(row)
    return None
