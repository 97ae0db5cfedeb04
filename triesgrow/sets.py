"""The sets of rooms that the words of a machine lead to, each written as a text."""

from triesgrow.errors import TooMany
from triesgrow.kinds import look_at_number
from triesgrow.machines import look_at, signs_of, steps_by
from triesgrow.roomtexts import marks

SETS_MOST = 4096


def sets_of(machine, most=400):
    """The machine's sets as they come, each with the number of the one that each sign leads to."""
    look_at(machine)
    look_at_number(most, 1, SETS_MOST)
    many, firsts, _, steps = machine
    leads = steps_by(steps, signs_of(machine))
    texts = [marks(firsts, many)]
    numbers = {texts[0]: 0}
    told = []
    while len(told) < len(texts):
        text = texts[len(told)]
        nexts = []
        for sign, led in leads.items():
            after = set_after(text, led)
            if after not in numbers:
                if len(texts) == most:
                    raise TooMany(most)
                numbers[after] = len(texts)
                texts.append(after)
            nexts.append((sign, numbers[after]))
        told.append((text, nexts))
    return told


def set_after(text, led):
    """The set to which these steps lead from the set."""
    after = ["0" for _ in text]
    for room, _, other in led:
        if text[room] == "1":
            after[other] = "1"
    return "".join(after)
