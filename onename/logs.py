"""Logs: what a house wrote down, and what follows from it for its word and its claim of a name."""

from onename.houses import are_parts, has_first_word

# What stands behind each entry's first word; is_part of onename.houses says what the kinds mean.
ENTRY_PARTS = {
    "ask": ("name", "number", "name", "number"),
    "got": ("name", "number", "house", "number"),
    "no": ("name", "number", "house"),
    "back": ("name", "number"),
    "word": ("name", "house", "number", "number"),
    "free": ("name", "house", "number"),
}


def is_entry(many, thing):
    """Whether anything is an entry of a log of one of many houses."""
    if not has_first_word(thing):
        return False
    kinds = ENTRY_PARTS.get(thing[0])
    return kinds is not None and are_parts(many, kinds, thing[1:])


def is_log(many, thing):
    """Whether anything is a log of one of many houses, by the kinds of its entries."""
    return isinstance(thing, tuple) and all([is_entry(many, entry) for entry in thing])


def word_in(log, name):
    """The house's word of a name: (house, number, until), or None."""
    word = None
    for entry in log:
        if entry[0] == "word" and entry[1] == name:
            word = entry[2:]
        elif entry[0] == "free" and entry[1] == name and word is not None and word[:2] == entry[2:]:
            word = None
    return word


def entries_for(log, kind, name, number):
    """The ask, got or no entries of a log that are of this name and number."""
    return [entry for entry in log if entry[0] == kind and entry[1] == name and entry[2] == number]


def words_for(log, name, number):
    """The words that a claim got: (house, until) of each house, rising, the greatest until of each."""
    untils = {}
    for entry in entries_for(log, "got", name, number):
        house, until = entry[3:]
        untils[house] = max(until, untils.get(house, until))
    return tuple(sorted(untils.items()))


def noes_for(log, name, number):
    """The houses, rising, that said no to a claim and gave it no word, be it earlier or later."""
    givers = [house for house, until in words_for(log, name, number)]
    noes = [entry[3] for entry in entries_for(log, "no", name, number)]
    return tuple(sorted({house for house in noes if house not in givers}))


def claim_in(log, name):
    """The house's own claim of a name: (number, person, until, words, noes), or None."""
    numbers = [entry[2] for entry in log if entry[0] == "ask" and entry[1] == name]
    if not numbers:
        return None
    number = max(numbers)
    if ("back", name, number) in log:
        return None
    asks = entries_for(log, "ask", name, number)
    until = max([entry[4] for entry in asks])
    return (number, asks[-1][3], until, words_for(log, name, number), noes_for(log, name, number))


def next_number(log):
    """The number of the house's next claim: above those of all its claims, of whatever names."""
    return max([entry[2] for entry in log if entry[0] == "ask"], default=0) + 1
