"""Patterns written as texts, and texts read to patterns."""

from triesgrow.errors import NoPattern
from triesgrow.kinds import is_sign
from triesgrow.patterns import LETTERS_MOST, is_within

# What may come next behind what stands in a bracket, or in the whole text, so far.
# The letter a is written here for any whole pattern, and for whatever begins one.
NEXT = {
    "": "a",
    "a": "*",
    "(": "a",
    "(a": "a*|",
    "(aa": "*)",
    "(a|": "a",
    "(a|a": "*)",
}


def shown(pattern):
    """The text that writes the pattern."""
    kind = pattern[0]
    if kind == "none":
        return "_"
    if kind == "sign":
        letters = pattern[1]
        return letters if len(letters) == 1 else f"[{letters}]"
    one = shown(pattern[1])
    if kind == "again":
        return f"{one}*"
    other = shown(pattern[2])
    return f"({one}{other})" if kind == "then" else f"({one}|{other})"


def read(text):
    """The pattern that the text writes."""
    if not isinstance(text, str):
        raise NoPattern(None)
    # A stack of our own, as brackets may lie deeper than calls may go.
    opened = [""]
    held = []
    at = 0
    while at < len(text):
        at = read_on(text, at, opened, held)
    if opened != ["a"]:
        raise NoPattern(len(text))
    pattern, leaves, parts, deep = held[0]
    if not is_within(leaves, parts, deep):
        raise NoPattern(None)
    return pattern


def read_on(text, at, opened, held):
    """Reads what stands at the place, and tells the place behind it.

    opened has what stands in each open bracket so far, held has all patterns that are
    whole but stand in no whole one yet, each with its leaves, parts and depth.
    """
    sign = text[at]
    begins = sign in "_([" or is_sign(sign)
    if ("a" if begins else sign) not in NEXT[opened[-1]]:
        raise NoPattern(at)
    if sign == "(":
        opened.append("(")
    elif sign == "|":
        opened[-1] += "|"
    elif sign == "*":
        held.append(again_of(held.pop()))
    elif sign == ")":
        other = held.pop()
        one = held.pop()
        hold(pair_of(opened.pop(), one, other), opened, held)
    elif sign == "_":
        hold((("none",), 0, 1, 1), opened, held)
    else:
        letters = letters_at(text, at) if sign == "[" else sign
        hold((("sign", letters), 1, 1, 1), opened, held)
        return at + (2 + len(letters) if sign == "[" else 1)
    return at + 1


def hold(whole, opened, held):
    """Notes a pattern that has become whole."""
    opened[-1] += "a"
    held.append(whole)


def again_of(whole):
    """Again of a held pattern, itself to be held."""
    pattern, leaves, parts, deep = whole
    return ("again", pattern), leaves, parts + 1, deep + 1


def pair_of(stood, one, other):
    """Then or or, as the bracket stood, of two held patterns, itself to be held."""
    kind = "or" if "|" in stood else "then"
    return (kind, one[0], other[0]), one[1] + other[1], one[2] + other[2] + 1, max(one[3], other[3]) + 1


def letters_at(text, at):
    """The letters in the square bracket that opens at the place."""
    letters = ""
    for place in range(at + 1, len(text)):
        sign = text[place]
        if sign == "]" and len(letters) > 1:
            return letters
        if not can_follow(letters, sign):
            raise NoPattern(place)
        letters += sign
    raise NoPattern(len(text))


def can_follow(letters, sign):
    """Whether the sign can stand in a square bracket as a letter behind these."""
    if not is_sign(sign) or len(letters) == LETTERS_MOST:
        return False
    # One letter stands without brackets, so a first one needs a greater one behind it.
    return letters[-1] < sign if letters else sign < "z"
