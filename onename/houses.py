"""Houses, names and deeds, and the kinds of parts that deeds and log entries are made of."""

LETTERS = "abcdefghijklmnopqrstuvwxyz"
LONGEST_NAME = 8
MOST_HOUSES = 7
LEAST_TERM = 2
MOST_TERM = 9

# What stands behind each deed's first word; is_part says what the kinds mean.
DEED_PARTS = {
    "claim": ("house", "name", "name"),
    "renew": ("house", "name"),
    "back": ("house", "name"),
    "carry": ("place",),
    "copy": ("place",),
    "lose": ("place",),
    "fall": ("house",),
    "rise": ("house",),
    "part": ("houses",),
    "heal": (),
    "round": (),
}


def needed(many):
    """How many of many houses are more than half of them."""
    return many // 2 + 1


def reach_of(numbers, many):
    """The greatest round to which the needed of these words reach, 0 where they are too few."""
    least = needed(many)
    if len(numbers) < least:
        return 0
    return sorted(numbers, reverse=True)[least - 1]


def is_whole(thing):
    """Whether it is a whole number: truths are ints to Python, but none here."""
    return isinstance(thing, int) and not isinstance(thing, bool)


def is_many(thing):
    """Whether there may be so many houses."""
    return is_whole(thing) and 1 <= thing <= MOST_HOUSES


def is_term(thing):
    """Whether words may be given for so many rounds."""
    return is_whole(thing) and LEAST_TERM <= thing <= MOST_TERM


def is_house(many, thing):
    """Whether it is the number of one of many houses."""
    return is_whole(thing) and 0 <= thing < many


def is_name(thing):
    """Whether it is a name; persons are written likewise."""
    if not isinstance(thing, str) or not 1 <= len(thing) <= LONGEST_NAME:
        return False
    return all([sign in LETTERS for sign in thing])


def is_side(many, thing):
    """Whether it is a tuple of houses that a parting can set apart: some, not all, rising, each once."""
    if not isinstance(thing, tuple) or not 0 < len(thing) < many:
        return False
    if not all([is_house(many, part) for part in thing]):
        return False
    return list(thing) == sorted(set(thing))


def is_part(many, kind, thing):
    """Whether it may stand where a part of this kind is due."""
    if kind == "house":
        return is_house(many, thing)
    if kind == "name":
        return is_name(thing)
    if kind == "place":
        return is_whole(thing) and thing >= 0
    if kind == "number":
        return is_whole(thing) and thing >= 1
    return is_side(many, thing)


def are_parts(many, kinds, parts):
    """Whether the parts are of these kinds, one for one."""
    if len(parts) != len(kinds):
        return False
    return all([is_part(many, kind, part) for kind, part in zip(kinds, parts)])


def has_first_word(thing):
    """Whether it is a tuple that begins with a text: only then can it be looked up by its first word."""
    return isinstance(thing, tuple) and len(thing) > 0 and isinstance(thing[0], str)


def is_deed(many, thing):
    """Whether anything is a deed in a world of many houses."""
    if not has_first_word(thing):
        return False
    kinds = DEED_PARTS.get(thing[0])
    return kinds is not None and are_parts(many, kinds, thing[1:])
