"""Patterns and words: what is one, and how large a pattern is."""

from triesgrow.kinds import is_sign, signs_ahead

LETTERS_MOST = 8
LEAVES_MOST = 11
PARTS_MOST = 40
DEEP_MOST = 12

# How many patterns stand in a pattern of each kind; a sign has letters instead.
INNER = {"none": 0, "then": 2, "or": 2, "again": 1}


def is_word(thing):
    """Whether the thing is a word."""
    return isinstance(thing, str) and signs_ahead(thing) == len(thing)


def is_pattern(thing):
    """Whether the thing is a pattern."""
    # The form is looked at first: its bound on depth keeps the counting behind it short.
    return is_formed(thing, DEEP_MOST) and is_within(leaves_of(thing), parts_of(thing), deep_of(thing))


def is_within(leaves, parts, deep):
    """Whether so many leaves and parts and such a depth are within the bounds of patterns."""
    return leaves <= LEAVES_MOST and parts <= PARTS_MOST and deep <= DEEP_MOST


def is_formed(thing, deep):
    """Whether the thing, of at most this depth, is formed as a pattern is, however many leaves and parts it has."""
    if deep < 1 or not isinstance(thing, tuple) or len(thing) < 1 or not isinstance(thing[0], str):
        return False
    if thing[0] == "sign":
        return len(thing) == 2 and are_letters(thing[1])
    many = INNER.get(thing[0])
    return many is not None and len(thing) == 1 + many and all([is_formed(inner, deep - 1) for inner in thing[1:]])


def are_letters(thing):
    """Whether the thing is a text of 1 to 8 unlike rising signs."""
    if not isinstance(thing, str) or not 1 <= len(thing) <= LETTERS_MOST:
        return False
    signs = all([is_sign(letter) for letter in thing])
    return signs and all([ahead < letter for ahead, letter in zip(thing, thing[1:])])


def inner_of(pattern):
    """The patterns that stand in the pattern, not those within them."""
    return () if pattern[0] == "sign" else pattern[1:]


def leaves_of(pattern):
    """How many leaves the pattern has."""
    if pattern[0] == "sign":
        return 1
    return sum([leaves_of(inner) for inner in inner_of(pattern)])


def parts_of(pattern):
    """How many parts the pattern has."""
    return 1 + sum([parts_of(inner) for inner in inner_of(pattern)])


def deep_of(pattern):
    """The depth of the pattern."""
    return 1 + max([deep_of(inner) for inner in inner_of(pattern)], default=0)
