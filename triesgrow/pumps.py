"""Pumps: words with middles that are laid again and again, and so have more and more ways."""

from triesgrow.errors import TooMany
from triesgrow.growth import greatest_rank, ranks_by, rooms_led_from
from triesgrow.kinds import WORD_MOST, is_room, is_sign, look_at_number
from triesgrow.machines import look_at, signs_of
from triesgrow.rounds import double_rounds, led_rounds
from triesgrow.useful import text_between
from triesgrow.ways import moved, moves_by, one_at, worth_one

ROUNDS_MOST = 12
TIMES_MOST = 400


def pump_of(machine):
    """A pump of the machine that grows as its ways do; None where they never grow."""
    doubles = double_rounds(machine)
    if doubles:
        room, word = doubles[0]
        return put_together(machine, [(room, room, word)])
    chain = longest_chain(machine, led_rounds(machine))
    return put_together(machine, chain) if chain else None


def longest_chain(machine, pairs):
    """As many of the pairs as the greatest rank, each with a word to the next one."""
    told = ranks_by(machine, pairs)
    chain = []
    power = greatest_rank(told)
    last = told.index(power) if power > 0 else None
    for rank in range(power - 1, -1, -1):
        nearest = [pair for pair in pairs if told[pair[0]] == rank and rooms_led_from(machine, pair[1], [last])]
        chain = [nearest[0]] + chain
        last = nearest[0][0]
    return chain


def put_together(machine, chain):
    """The pump with these rounds, each told with its middle."""
    _, firsts, lasts, _ = machine
    texts = [shortest_between(machine, firsts, [chain[0][0]])]
    for at, (_, other, middle) in enumerate(chain):
        following = [room for room, _, _ in chain[at + 1:at + 2]]
        texts += [middle, shortest_between(machine, [other], following or lasts)]
    return texts, [(room, other) for room, other, _ in chain]


def shortest_between(machine, rooms, others):
    """The shortest word that leads from one of the rooms to one of the others, of several the first as letters go."""
    texts = [text_between(machine, room, other) for room in rooms for other in others]
    return min([text for text in texts if text is not None], key=lambda text: (len(text), text))


def lets_pump(machine, thing):
    """Whether the thing is a pump of the machine."""
    look_at(machine)
    return is_pump(thing, machine[0]) and leads_through(machine, thing)


def is_pump(thing, many):
    """Whether the thing has the form of a pump of a machine with so many rooms."""
    if not isinstance(thing, tuple) or len(thing) != 2:
        return False
    texts, rounds = thing
    if not isinstance(texts, list) or not isinstance(rounds, list):
        return False
    if not 1 <= len(rounds) <= ROUNDS_MOST or len(texts) != 2 * len(rounds) + 1:
        return False
    return all([are_signs(text) for text in texts]) and all([is_round(pair, many) for pair in rounds])


def are_signs(thing):
    """Whether the thing is a text of signs, however many."""
    return isinstance(thing, str) and all([is_sign(sign) for sign in thing])


def is_round(thing, many):
    """Whether the thing is a tuple of two rooms where there are so many."""
    return isinstance(thing, tuple) and len(thing) == 2 and all([is_room(room, many) for room in thing])


def leads_through(machine, pump):
    """Whether the pump's texts lead as they must by its rounds."""
    texts, rounds = pump
    begins = machine[1]
    for at, (room, other) in enumerate(rounds):
        ahead = few_ways(machine, begins, texts[2 * at])
        if ahead[room] == 0 or not is_middle(machine, room, other, texts[2 * at + 1]):
            return False
        begins = [other]
    ends = few_ways(machine, begins, texts[-1])
    return any([ends[last] > 0 for last in machine[2]])


def is_middle(machine, room, other, text):
    """Whether the text can be the middle of this round."""
    # The text without signs leads in one way to the room itself, and to no other one, so it can be none.
    ways = few_ways(machine, [room], text)
    if room == other:
        return ways[room] > 1
    return ways[room] > 0 and ways[other] > 0 and few_ways(machine, [other], text)[other] > 0


def few_ways(machine, rooms, text):
    """For each room how many ways on the text lead there from these rooms: none, one, or 2 for all that are more."""
    many, _, _, steps = machine
    moves = moves_by(steps, signs_of(machine), worth_one)
    vector = one_at(rooms, many)
    for sign in text:
        vector = [min(2, number) for number in moved(vector, moves.get(sign, []))]
    return vector


def laid(pump, many=1):
    """The word of all the pump's texts in order, each middle so many times."""
    look_at_number(many, 0, TIMES_MOST)
    texts, _ = pump
    times = [many if at % 2 == 1 else 1 for at in range(len(texts))]
    # The signs are counted first: there could be far more than a word has.
    if sum([len(text) * time for text, time in zip(texts, times)]) > WORD_MOST:
        raise TooMany(WORD_MOST)
    return "".join([text * time for text, time in zip(texts, times)])


def least_ways(pump, many=1):
    """How many ways at least the pump has when it is laid so many times."""
    look_at_number(many, 0, TIMES_MOST)
    _, rounds = pump
    least = 1
    for room, other in rounds:
        least *= (1 << many) if room == other else many
    return least
