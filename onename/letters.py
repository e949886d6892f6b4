"""Letters: what a house writes down, sends and is noticed of when it takes one."""

from onename.houses import reach_of
from onename.logs import claim_in, word_in, words_for

NOTHING = ((), (), None)


def others_of(many, house):
    """All other houses, rising."""
    return [other for other in range(many) if other != house]


def told_letters(many, notice):
    """The letters by which a house tells all others of a notice of its own claim."""
    name, house, number, person, noticed = notice
    return tuple([("told", house, other, name, number, person, noticed) for other in others_of(many, house)])


def reach_of_words(words, many):
    """The round to which the needed of a claim's words reach."""
    return reach_of([until for house, until in words], many)


def news_of(many, log, entries, notice):
    """The told letters and the notice, where the needed words reach farther by these entries, and above now."""
    name, house, number, person, now = notice
    ahead = reach_of_words(words_for(log, name, number), many)
    reach = reach_of_words(words_for(log + entries, name, number), many)
    if reach <= ahead or reach <= now:
        return ((), None)
    return (told_letters(many, notice), notice)


def take_ask(house, log, letter, now):
    """Give the word, say it once more, or say no."""
    kind, sender, to, name, number, person, until = letter
    if until <= now:
        return NOTHING
    word = word_in(log, name)
    is_same = word is not None and word[:2] == (sender, number)
    # A word that ran out binds no longer, whomever it was given to.
    if word is None or word[2] <= now or (is_same and word[2] < until):
        entry = ("word", name, sender, number, until)
        return ((entry,), (("word", house, sender, name, number, until),), None)
    if is_same:
        return ((), (("word", house, sender, name, number, word[2]),), None)
    return ((), (("no", house, sender, name, number),), None)


def take_word(many, house, log, letter, now):
    """Write the word down; where it makes the needed words reach farther, notice it and tell all others."""
    kind, sender, to, name, number, until = letter
    claim = claim_in(log, name)
    if claim is None or claim[0] != number:
        # The word is of no more use here, so its giver may have it back.
        return ((), (("back", house, sender, name, number),), None)
    if any([giver == sender and given >= until for giver, given in claim[3]]):
        return NOTHING
    entries = (("got", name, number, sender, until),)
    letters, notice = news_of(many, log, entries, (name, house, number, claim[1], now))
    return (entries, letters, notice)


def take_no(log, letter):
    """Write the no down, once, where it is to the claim that stands and its sender gave no word."""
    kind, sender, to, name, number = letter
    claim = claim_in(log, name)
    if claim is None or claim[0] != number:
        return NOTHING
    givers = [giver for giver, until in claim[3]]
    if sender in givers or sender in claim[4]:
        return NOTHING
    return ((("no", name, number, sender),), (), None)


def take_back(log, letter):
    """Take the word back, where it is to the very claim that is given back."""
    kind, sender, to, name, number = letter
    word = word_in(log, name)
    if word is None or word[:2] != (sender, number):
        return NOTHING
    return ((("free", name, sender, number),), (), None)


def take_told(letter):
    """Notice what another house tells of its claim."""
    kind, sender, to, name, number, person, noticed = letter
    return ((), (), (name, sender, number, person, noticed))


def taken(many, house, log, letter, now):
    """What a house with this log does with a letter to it: (entries, letters, notice)."""
    kind = letter[0]
    if kind == "ask":
        return take_ask(house, log, letter, now)
    if kind == "word":
        return take_word(many, house, log, letter, now)
    if kind == "no":
        return take_no(log, letter)
    if kind == "back":
        return take_back(log, letter)
    return take_told(letter)
