"""Two machines compared: a word that just one of them reads, or a closed table by which there is none."""

from triesgrow.errors import Parted, TooMany
from triesgrow.kinds import look_at_number
from triesgrow.machines import look_at, signs_of, steps_by
from triesgrow.roomtexts import are_marks, marks
from triesgrow.sets import set_after

PAIRS_MOST = 4000


def parting(one, other):
    """The shortest word that just one of the machines reads, of several the first as letters go; None without one."""
    look_at_both(one, other)
    text, _ = text_and_pairs(one, other)
    return text


def closed_of(one, other, most=400):
    """The least closed table of both machines, sorted."""
    look_at_both(one, other)
    look_at_number(most, 1, PAIRS_MOST)
    try:
        text, pairs = text_and_pairs(one, other)
    except TooMany:
        raise TooMany(most) from None
    if text is not None:
        raise Parted(text)
    if len(pairs) > most:
        raise TooMany(most)
    return sorted(pairs)


def lets_closed(one, other, thing):
    """Whether the thing is a closed table of both machines."""
    look_at_both(one, other)
    if not isinstance(thing, list) or not all([are_two_sets(pair, one[0], other[0]) for pair in thing]):
        return False
    if any([is_parted(pair, one, other) for pair in thing]):
        return False
    return leads_within(thing, one, other)


def look_at_both(one, other):
    """Refuses, with NoMachine, the first of the two that is no machine."""
    look_at(one)
    look_at(other)


def are_two_sets(thing, many, other_many):
    """Whether the thing is a tuple of two sets, where there are so many rooms."""
    if not isinstance(thing, tuple) or len(thing) != 2:
        return False
    return are_marks(thing[0], many) and are_marks(thing[1], other_many)


def leads_within(pairs, one, other):
    """Whether the pair of both firsts' sets is among these, and each to which a sign leads from one of them."""
    leads = leads_of_both(one, other)
    known = {pair: True for pair in pairs}
    if begin_of_both(one, other) not in known:
        return False
    for pair in known:
        for _, led, other_led in leads:
            if pair_after(pair, led, other_led) not in known:
                return False
    return True


def text_and_pairs(one, other):
    """The first word that parts the machines, or None, and the pairs of sets that are come to ahead of it, or all.

    It is refused, with TooMany, where they are too many.
    """
    leads = leads_of_both(one, other)
    begin = begin_of_both(one, other)
    if is_parted(begin, one, other):
        return "", []
    texts = {begin: ""}
    pairs = [begin]
    at = 0
    while at < len(pairs):
        for sign, led, other_led in leads:
            after = pair_after(pairs[at], led, other_led)
            if after not in texts:
                texts[after] = texts[pairs[at]] + sign
                if is_parted(after, one, other):
                    return texts[after], pairs
                if len(pairs) == PAIRS_MOST:
                    raise TooMany(PAIRS_MOST)
                pairs.append(after)
        at += 1
    return None, pairs


def leads_of_both(one, other):
    """Each sign that some step of the machines has, as letters go, with the steps of each by it."""
    signs = sorted(set(signs_of(one) + signs_of(other)))
    led = steps_by(one[3], signs)
    other_led = steps_by(other[3], signs)
    return [(sign, led[sign], other_led[sign]) for sign in signs]


def begin_of_both(one, other):
    """The pair of both firsts' sets."""
    return marks(one[1], one[0]), marks(other[1], other[0])


def pair_after(pair, led, other_led):
    """The pair to which these steps lead from the pair."""
    return set_after(pair[0], led), set_after(pair[1], other_led)


def is_parted(pair, one, other):
    """Whether just one of the pair's sets has a last."""
    return has_last(pair[0], one[2]) != has_last(pair[1], other[2])


def has_last(text, lasts):
    """Whether one of the lasts is in the set."""
    return any([text[room] == "1" for room in lasts])
