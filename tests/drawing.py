"""A fixed drawing: the same numbers in every run and under every Python."""


class Drawing:
    def __init__(self, seed):
        self.state = seed * 2 + 1

    def below(self, many):
        """A number from 0 on, below many."""
        self.state = (self.state * 6364136223846793005 + 1442695040888963407) & (2 ** 64 - 1)
        return (self.state >> 33) % many

    def one_of(self, things):
        return things[self.below(len(things))]

    def some_of(self, things):
        """Some of them, in their order; perhaps none, perhaps all."""
        return [thing for thing in things if self.below(2)]


PERSONS = ("joe", "ann", "sue")
KINDS = ("carry",) * 16 + ("claim",) * 3 + ("renew", "renew", "copy", "copy", "lose", "back", "fall", "rise", "rise",
                                            "part", "heal", "heal", "round")


def any_deed(draw, world, names, claimed):
    """Any deed of these names in this world, perhaps one that is refused; claims and renewals of the claimed only."""
    many, yard = len(world[2]), world[6]
    # Houses with lesser numbers are drawn oftener: where all claim alike, hardly one gets the needed words.
    house, name = draw.below(draw.below(many) + 1), draw.one_of(names)
    kind = draw.one_of(KINDS)
    if kind in ("claim", "renew"):
        if name not in claimed:
            return ("heal",)
        return (kind, house, name) + ((draw.one_of(PERSONS),) if kind == "claim" else ())
    if kind == "back":
        return (kind, house, name)
    if kind in ("fall", "rise"):
        return (kind, draw.one_of(world[4] + (house,)) if kind == "rise" else house)
    if kind == "part" and many > 1:
        side = draw.some_of(range(many))
        return (kind, tuple(side) if 0 < len(side) < many else (house,))
    if kind in ("carry", "copy", "lose"):
        # One farther than the yard goes, so that a letter that is none is asked for, too.
        return (kind, draw.below(len(yard) + 1))
    return ("heal",) if kind in ("part", "heal") else ("round",)
