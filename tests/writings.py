"""Which texts are writings, by patterns: told once more, without the package."""

import itertools
import re

NUMBER = "(?:0|[1-9][0-9]*)"
FROM_ONE = "[1-9][0-9]*"
NAME = "[a-z]{1,8}"


def house(many):
    return "[0-" + str(many - 1) + "]"


def houses(many):
    """Each side of a parting, written out."""
    sides = [side for length in range(1, many) for side in itertools.combinations(range(many), length)]
    return "(?:" + "|".join(",".join(map(str, side)) for side in sides) + ")" if sides else "(?!)"


def deed_pattern(many):
    one = house(many)
    return "|".join((
        "claim " + one + " " + NAME + " " + NAME, "(?:renew|back) " + one + " " + NAME,
        "(?:carry|copy|lose) " + NUMBER, "(?:fall|rise) " + one, "part " + houses(many), "heal", "round"))


def entry_pattern(many):
    one = house(many)
    return "|".join((
        " ".join(("ask", NAME, FROM_ONE, NAME, FROM_ONE)), " ".join(("got", NAME, FROM_ONE, one, FROM_ONE)),
        " ".join(("no", NAME, FROM_ONE, one)), " ".join(("back", NAME, FROM_ONE)),
        " ".join(("word", NAME, one, FROM_ONE, FROM_ONE)), " ".join(("free", NAME, one, FROM_ONE))))


def log_pattern(many):
    entry = "(?:" + entry_pattern(many) + ")"
    return "-|" + entry + "(?:\n" + entry + ")*"


def row_pattern(many):
    """The rows that a desk with so many houses knows."""
    one = house(many)
    number = "(?:0|[1-9][0-9]{0,8})"
    return "|".join((
        "houses [1-7] [2-9]", "(?:who|paper|barred) " + NAME, " ".join(("look", one, NAME, number)), "log " + one, "now",
        "yard", "quiet (?:1?[0-9]|20)", " ".join(("sure", one, NAME, NAME)),
        deed_pattern(many)))


def is_writing(pattern, text):
    return re.fullmatch(pattern, text) is not None


SIGNS = [chr(code) for code in range(32, 127)] + ["\n"]


def bent(text, signs=SIGNS):
    """The text with one sign left out, put in, exchanged or doubled; noughts and signs ahead of numbers are among it."""
    for at in range(len(text) + 1):
        for sign in signs:
            yield text[:at] + sign + text[at:]
        if at < len(text):
            yield text[:at] + text[at + 1:]
            for sign in signs:
                yield text[:at] + sign + text[at + 1:]
            if at + 1 < len(text):
                yield text[:at] + text[at + 1] + text[at] + text[at + 2:]


def bent_by_words(text, gap=" "):
    """The text with a word left out, doubled or exchanged, and with gaps ahead, behind and doubled."""
    words = text.split(gap)
    for at in range(len(words)):
        yield gap.join(words[:at] + words[at + 1:])
        yield gap.join(words[:at] + [words[at]] * 2 + words[at + 1:])
        for other in range(at):
            changed = list(words)
            changed[at], changed[other] = words[other], words[at]
            yield gap.join(changed)
        for word in ("ab", "0", "1", "claim", "heal", "-", "01", "+1", "-1", "1.0", "1_0", "3", "7", "0,1", "0,", ",", "no"):
            yield gap.join(words[:at] + [word] + words[at + 1:])
            yield gap.join(words[:at] + [word] + words[at:])
        yield gap.join(words[:at]) + gap + gap + gap.join(words[at:])
    for other in (gap, gap + gap, " ", "\n", "\t", ",", "-", "0"):
        yield other + text
        yield text + other
        yield other + text + other
