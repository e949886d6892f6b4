"""Texts: the one writing of each deed and each log, and how it is read back."""

from onename.errors import NoText
from onename.houses import DEED_PARTS, is_deed
from onename.logs import ENTRY_PARTS, is_entry

FIGURES = "0123456789"
EMPTY_LOG = "-"


def show_part(part):
    """The writing of a deed's or an entry's part."""
    if isinstance(part, tuple):
        return ",".join([str(house) for house in part])
    return str(part)


def show_words(parts):
    """The writings of these parts, with blanks between."""
    return " ".join([show_part(part) for part in parts])


def show_deed(deed):
    """The writing of a deed."""
    return show_words(deed)


def show_log(log):
    """The writing of a log."""
    if not log:
        return EMPTY_LOG
    return "\n".join([show_words(entry) for entry in log])


def is_number_text(word):
    """Whether it is the writing of a whole number from 0 on."""
    if word == "" or not all([sign in FIGURES for sign in word]):
        return False
    return word == "0" or word[0] != "0"


def number_of(word):
    """The number that is written so; figure by figure, since Python's own int refuses very long ones."""
    number = 0
    for figure in word:
        number = number * 10 + FIGURES.index(figure)
    return number


def read_number(word):
    """The number that a word writes."""
    if not is_number_text(word):
        raise NoText("this writes no number")
    return number_of(word)


def read_part(kind, word):
    """The part that a word writes where one of this kind is due; whether it may stand there is not looked at."""
    if kind == "name":
        return word
    if kind == "houses":
        return tuple([read_number(house) for house in word.split(",")])
    return read_number(word)


def read_words(kinds, words):
    """The tuple of a first word and the parts of these kinds that the words behind it write."""
    if kinds is None or len(words) != len(kinds) + 1:
        raise NoText("there is no such first word, or it has other words behind it")
    parts = [read_part(kind, word) for kind, word in zip(kinds, words[1:])]
    return (words[0], *parts)


def read_deed(many, text):
    """The deed that a text writes, for many houses."""
    words = text.split(" ")
    deed = read_words(DEED_PARTS.get(words[0]), words)
    if not is_deed(many, deed):
        raise NoText("this writes no deed")
    return deed


def read_entry(many, text):
    """The entry that a line writes, for many houses."""
    words = text.split(" ")
    entry = read_words(ENTRY_PARTS.get(words[0]), words)
    if not is_entry(many, entry):
        raise NoText("this writes no entry")
    return entry


def read_log(many, text):
    """The log that a text writes, for many houses."""
    if text == EMPTY_LOG:
        return ()
    return tuple([read_entry(many, line) for line in text.split("\n")])
