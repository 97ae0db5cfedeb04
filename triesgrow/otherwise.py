"""Patterns put otherwise: they read the same words, none in more ways."""

from triesgrow.patterns import LETTERS_MOST, inner_of

NONE = ("none",)


def put_otherwise(pattern):
    """The pattern put otherwise by the rules, till none of them fits."""
    if pattern[0] == "sign":
        return pattern
    # What stands in the pattern comes first, so that the rules are looked for in what they have left.
    settled = (pattern[0], *[put_otherwise(inner) for inner in inner_of(pattern)])
    after = by_rule(settled)
    return settled if after is None else put_otherwise(after)


def by_rule(pattern):
    """What the pattern itself becomes by one rule; None where none fits."""
    kind = pattern[0]
    if kind == "again":
        return again_by_rule(pattern[1])
    if kind == "then":
        return then_by_rule(pattern[1], pattern[2])
    if kind == "or":
        return or_by_rule(pattern[1], pattern[2])
    return None


def again_by_rule(one):
    """What again of the pattern becomes by one rule; None where none fits."""
    if one == NONE or one[0] == "again":
        return one
    if one[0] == "or" and one[1] == NONE:
        return "again", one[2]
    if one[0] == "or" and one[2] == NONE:
        return "again", one[1]
    return None


def then_by_rule(one, other):
    """What then of the patterns becomes by one rule; None where none fits."""
    if one == NONE:
        return other
    if other == NONE or (one == other and one[0] == "again"):
        return one
    return None


def or_by_rule(one, other):
    """What or of the patterns becomes by one rule; None where none fits."""
    kinds = (one[0], other[0])
    if one == other or kinds == ("again", "none"):
        return one
    if kinds == ("none", "again"):
        return other
    if kinds == ("sign", "sign"):
        return sign_of_both(one[1], other[1])
    if kinds == ("then", "then"):
        return then_of_both(one, other)
    return None


def sign_of_both(letters, others):
    """One sign with the letters of both; None where these are too many."""
    both = "".join(sorted({letter for letter in letters + others}))
    return ("sign", both) if len(both) <= LETTERS_MOST else None


def then_of_both(one, other):
    """The or of two thens with what both have ahead, or behind, put once; None where they have nothing so."""
    if one[1] == other[1]:
        return "then", one[1], ("or", one[2], other[2])
    if one[2] == other[2]:
        return "then", ("or", one[1], other[1]), one[2]
    return None
