"""Things that tests of several modules hand in where anything may be handed in."""

# Of none of these a house, a number, a name or a tuple of houses can be made up.
STRANGE = (
    None, True, False, -1, "", "0", "1", " ", "\n", "Ab", b"ab", b"", [], [0], {}, {"a": 1}, {1}, (), ("ab",),
    ((),), object(), object, len, range(2), -10 ** 29,
)

NOT_NAMES = (
    "", "abcdefghi", "Ab", "aB", "AB", "a1", "1", "a b", " ab", "ab ", " ", "ab\n", "\n", "\nab", "a-b", "a_b",
    "`", "{", "a`", "a{", "~", "ab,", "a" * 4000, None, True, False, 0, 1, -1, b"ab", ["ab"], ("ab",), ["a", "b"],
    ("a", "b"), {"ab": 1}, {"ab"}, object(),
)

NAMES = ("a", "z", "ab", "abcdefgh", "zzzzzzzz", "joe", "claim", "heal")

NOT_WHOLE = (None, True, False, "", "0", "1", "a", b"1", [], [1], (), (1,), {}, {1}, object())


def replaced(thing, at, part):
    """The tuple with another part in one place."""
    return thing[:at] + (part,) + thing[at + 1:]
