"""Points 22 and 23 once more, without the package's search: by every single row of the deeds, one by one."""

import itertools

from model import Model, Refused

from onename.houses import is_deed


def world_behind(world, row):
    """The world behind a row, by the model; None where a deed of it is refused or no deed."""
    model = Model(world)
    for deed in row:
        if not is_deed(model.many, deed):
            return None
        try:
            model.do(deed)
        except Refused:
            return None
    return model.world()


def rows_of(deeds, most):
    """All rows of at most so many deeds: the shorter first, those of one length by the places of their deeds."""
    for length in range(most + 1):
        yield from itertools.product(deeds, repeat=length)


def counted(world, deeds, most):
    """How many worlds are new at each number of deeds."""
    lengths = {}
    for row in rows_of(deeds, most):
        behind = world_behind(world, row)
        if behind is not None:
            lengths.setdefault(behind, len(row))
    return [list(lengths.values()).count(length) for length in range(most + 1)]


def first_row(world, deeds, most, name, house):
    """The first row behind which the house has the name, as a list, or None."""
    for row in rows_of(deeds, most):
        behind = world_behind(world, row)
        if behind is not None and [holder[0] for holder in Model(behind).holders(name)] == [house]:
            return list(row)
    return None
