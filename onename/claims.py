"""What a house does with its own claim: told is (entries, letters, notice), as onename.letters tells of a letter."""

from onename.letters import news_of, others_of, take_ask, take_no
from onename.logs import word_in


def own_answer(house, log, ask, now):
    """The entries of a house's own word, or its own no, to its own ask."""
    kind, name, number, person, until = ask
    entries, letters, notice = take_ask(house, log, ("ask", house, house, name, number, person, until), now)
    if entries:
        return entries + (("got", name, number, house, until),)
    answer = letters[0]
    if answer[0] == "word":
        # Its word reaches so far already: there is nothing new to write down.
        return ()
    return take_no(log + (ask,), answer)[0]


def asked(many, house, log, ask, now):
    """A house writes down its ask, first or renewed, answers it itself and asks all others."""
    kind, name, number, person, until = ask
    answer = own_answer(house, log, ask, now)
    letters = [("ask", house, other, name, number, person, until) for other in others_of(many, house)]
    told, notice = news_of(many, log, answer, (name, house, number, person, now))
    return ((ask,) + answer, tuple(letters) + told, notice)


def given_back(many, house, log, name, number):
    """A house gives its claim back, takes back its own word to it and lets all others take back theirs."""
    entries = (("back", name, number),)
    word = word_in(log, name)
    if word is not None and word[:2] == (house, number):
        entries = entries + (("free", name, house, number),)
    letters = [("back", house, other, name, number) for other in others_of(many, house)]
    return (entries, tuple(letters), None)
