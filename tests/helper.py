"""What several tests need: things of every kind, refusals looked at, small machines, ways listed one by one."""

import copy
import random
import unittest


class Thing:
    """A thing of a kind that no point tells of."""


def oddities():
    """Things of many kinds, none of them a pattern, a machine, or a way of a word with a sign."""
    return [
        None, True, False, 0, 1, -1, 2, 13, 400, 10 ** 50, -(10 ** 50), 0.0, 1.0, 1.5, float("nan"), 1j,
        "", "a", "abc", "none", "sign", "A", "_", "(", "rooms", "0", " ", "\n", "\t", "~",
        b"", b"a", bytearray(b"a"), [], [0], [None], [True], ["a"], [[]], [[0], [1]],
        (), (0,), ("",), ("none", "none"), ("sign",), (("none",),), (1, 2, 3), (1, [], []), (1, [], [], [], []),
        {}, {0: 0}, {"none": 1}, set(), {1}, frozenset(), range(2), ..., NotImplemented,
        Thing(), Thing, len, lambda: None, ValueError("a"), iter([]),
    ]


def kept(call, *handed):
    """What the call tells, once it is seen that nothing handed in was changed by it."""
    before = copy.deepcopy(handed)
    told = call(*handed)
    if handed != before:
        raise AssertionError(f"{before!r} became {handed!r}")
    return told


class Case(unittest.TestCase):
    """A test case that looks at refusals, and at truths."""

    def refused(self, error, values, call, *handed, **named):
        """The call is refused with the error, whose fields have just these values, of these very kinds."""
        try:
            told = call(*handed, **named)
        except error as refusal:
            for name, value in values.items():
                field = getattr(refusal, name)
                alike = field is value or (type(field) is type(value) and field == value)
                self.assertTrue(alike, f"{error.__name__}.{name} is {field!r}, not {value!r}, of {handed!r:.300}")
            return
        self.fail(f"{error.__name__} {values!r} was not refused, but {told!r:.300} told, of {handed!r:.300}")

    def is_true(self, told, about=None):
        self.assertIs(told, True, f"{about!r:.300}")

    def is_false(self, told, about=None):
        self.assertIs(told, False, f"{about!r:.300}")

    def same_kinds(self, told, wanted):
        """What is told is what is wanted, down to the kinds of the values within it."""
        self.assertEqual(told, wanted)
        self.assertIs(type(told), type(wanted))
        if isinstance(wanted, (list, tuple)):
            for one, other in zip(told, wanted):
                self.same_kinds(one, other)


def no_machines():
    """Things that are no machines, each with the values of its refusal."""
    return [
        (None, "machine", None),
        ([2, [0], [1], []], "machine", None),
        ((2, [0], [1]), "machine", None),
        ((True, [0], [1], []), "many", None),
        ((0, [], [], []), "many", None),
        ((13, [], [], []), "many", None),
        ((2, (0,), [1], []), "firsts", None),
        ((2, [0, 2], [1], []), "firsts", 1),
        ((2, [0], [1, 0], []), "lasts", 1),
        ((2, [0], [1], ()), "steps", None),
        ((2, [0], [1], [(0, "a", 1), (0, "a", True)]), "steps", 1),
        ((2, [0], [1], [(0, "a", 1), (0, "a", 1)]), "steps", 1),
    ]


def machines():
    """Small machines of many kinds, steps in orders that are not sorted among them."""
    return [
        (1, [], [], []),
        (1, [0], [0], []),
        (1, [0], [0], [(0, "a", 0)]),
        (2, [0], [1], []),
        (2, [], [0, 1], [(0, "a", 1), (1, "a", 0)]),
        (2, [0, 1], [], [(0, "a", 1), (1, "a", 0)]),
        (2, [0, 1], [0, 1], [(1, "a", 1), (0, "a", 1), (1, "a", 0), (0, "a", 0)]),
        (3, [0], [2], [(0, "b", 1), (0, "a", 2), (0, "a", 0), (2, "b", 2), (1, "a", 2), (2, "a", 0), (0, "b", 0)]),
        (3, [1, 2], [0, 2], [(2, "a", 1), (1, "a", 2), (1, "a", 1), (1, "b", 0), (2, "b", 0), (0, "b", 2),
                             (0, "b", 1), (2, "c", 2)]),
        (4, [0, 3], [1, 2, 3], [(0, "z", 3), (3, "z", 2), (3, "z", 1), (2, "a", 0), (1, "a", 3), (1, "a", 0),
                                (3, "a", 3), (0, "a", 2), (0, "a", 1), (0, "a", 0)]),
        (12, [0, 11], [10, 11], [(0, "a", 11), (0, "a", 10), (11, "a", 0), (11, "a", 11), (10, "b", 0),
                                 (11, "b", 10), (5, "a", 6)]),
        crowded(),
        *some_machines(),
    ]


def some_machines():
    """Machines put together by chance, the same ones in each run."""
    chance = random.Random(7)
    told = []
    for _ in range(12):
        many = chance.randint(1, 5)
        every = [(room, sign, other) for room in range(many) for sign in "ab" for other in range(many)]
        steps = chance.sample(every, chance.randint(0, len(every)))
        firsts = [room for room in range(many) if chance.random() < 0.6]
        lasts = [room for room in range(many) if chance.random() < 0.6]
        told.append((many, firsts, lasts, steps))
    return told


def crowded():
    """A machine of 12 rooms with 200 steps."""
    steps = [(room, sign, other) for other in range(12) for sign in "ba" for room in range(11, -1, -1)]
    return 12, [0, 5], [1, 11], steps[:200]


def words(signs, most):
    """All words of at most so many of these signs."""
    told = [""]
    for word in told:
        if len(word) < most:
            told.extend(word + sign for sign in signs)
    return told


def listed_beginnings(machine, word):
    """All beginnings of the whole word, in order, gone through one by one."""
    _, firsts, _, steps = machine
    told = [[room] for room in firsts]
    for sign in word:
        told = [way + [other] for way in told for room, by, other in steps if room == way[-1] and by == sign]
    return told


def listed_ways(machine, word):
    """All ways of the word, in order, gone through one by one."""
    return [way for way in listed_beginnings(machine, word) if way[-1] in machine[2]]


def listed_tries(machine, word):
    """All beginnings, in the order in which a trier comes to them, gone through one by one."""
    _, firsts, _, steps = machine
    told = []

    def come_to(way):
        told.append(way)
        for room, sign, other in steps:
            if len(way) <= len(word) and room == way[-1] and sign == word[len(way) - 1]:
                come_to(way + [other])

    for room in firsts:
        come_to([room])
    return told


def no_numbers(least, most=None):
    """Things of many kinds, none of them a whole number from the least one to the most, if there is a most."""
    others = [thing for thing in oddities() if type(thing) is not int or thing < least or most and thing > most]
    others += [least - 1, str(least), float(least), [least], (least,), -(10 ** 59)]
    return others + ([most + 1, most + 2, -most, 10 ** 59] if most else [])


def by_pairs(machine, word):
    """For each two rooms how many ways, gone through one by one, lead on the word from the one to the other."""
    many, _, _, steps = machine
    told = {}
    for room in range(many):
        for way in listed_beginnings((many, [room], [], steps), word):
            told[room, way[-1]] = told.get((room, way[-1]), 0) + 1
    return told


def led_to(machine, rooms):
    """All rooms to which words lead from these."""
    told = set(rooms)
    while True:
        more = told | {other for room, _, other in machine[3] if room in told}
        if more == told:
            return told
        told = more


def useful_rooms(machine):
    """The useful rooms, found otherwise than the program does."""
    many, firsts, lasts, _ = machine
    ahead = led_to(machine, firsts)
    return [room for room in range(many) if room in ahead and led_to(machine, [room]) & set(lasts)]


def chain(many, signs="a"):
    """Rooms with a step by each of the signs to themselves and to the next one: each leads the rounds of all behind."""
    steps = [(room, sign, room) for room in range(many) for sign in signs]
    steps += [(room, sign, room + 1) for room in range(many - 1) for sign in signs]
    return many, [0], [many - 1], steps


def ring(rooms, signs):
    """The steps of a ring of these rooms, by the signs in turn."""
    return [(room, signs[at % len(signs)], rooms[(at + 1) % len(rooms)]) for at, room in enumerate(rooms)]


# Rings of five and of seven rooms through room 0; one of five that leads into one of seven; rooms beside that go
# double, but are not useful.
RINGS = (11, [0], [0], ring([0, 1, 2, 3, 4], "a") + ring([0, 5, 6, 7, 8, 9, 10], "a"))
INTO = (12, [0], [11], ring([0, 1, 2, 3, 4], "a") + ring([5, 6, 7, 8, 9, 10, 11], "a") + [(2, "a", 7)])
BESIDE = (5, [0], [1], [(0, "a", 0), (0, "a", 1), (1, "a", 1), (2, "a", 2), (2, "a", 3), (3, "a", 2), (3, "a", 0),
                        (1, "b", 4), (4, "a", 4), (4, "b", 4)])


def growing():
    """Machines of which ways grow in all three manners, each with how they do."""
    never, doubles = ("never",), ("doubles",)
    loops = [(0, "a", 0), (0, "a", 1), (1, "a", 1)]
    told = [(chain(many), ("power", many - 1) if many > 1 else never) for many in range(1, 13)]
    told += [((many, [0], [many - 1], ring(list(range(many)), "ab")), never) for many in (1, 2, 5, 12)]
    return told + [
        ((1, [], [], []), never),
        ((12, [], [0], chain(12)[3]), never),
        ((12, [0], [], chain(12)[3]), never),
        ((12, list(range(12)), list(range(12)), []), never),
        ((2, [0], [1], [(0, "a", 0), (1, "a", 1)]), never),
        ((2, [0], [1], [(0, "a", 1), (0, "b", 1)]), never),
        ((3, [0], [2], [(0, "a", 0), (0, "a", 2), (2, "b", 2)]), never),
        ((2, [0], [1], [(0, "a", 0), (0, "b", 1), (1, "a", 1)]), never),
        (RINGS, doubles),
        (INTO, ("power", 1)),
        (BESIDE, ("power", 1)),
        (crowded(), doubles),
        ((2, [0], [0], [(0, "a", 0), (0, "a", 1), (1, "a", 0)]), doubles),
        ((2, [0], [1], loops + [(0, "b", 1), (1, "b", 0)]), doubles),
        # Of both pairs none leads to the other, so they don't follow one another.
        ((4, [0, 2], [1, 3], loops + [(2, "a", 2), (2, "a", 3), (3, "a", 3)]), ("power", 1)),
        ((4, [0], [3], loops + [(1, "b", 2), (2, "c", 2), (2, "c", 3), (3, "c", 3)]), ("power", 2)),
        ((3, [0], [2], loops + [(1, "b", 1), (1, "b", 2), (2, "b", 2)]), ("power", 2)),
        ((3, [0], [2], loops + [(1, "b", 2), (2, "b", 2)]), ("power", 1)),
    ]


def few_by_pairs(machine, word):
    """For each two rooms how many ways lead on the word from the one to the other, 2 where there are more."""
    many, _, _, steps = machine
    told = {}
    for room in range(many):
        held = {room: 1}
        for sign in word:
            after = {}
            for begin, by, other in steps:
                if by == sign and begin in held:
                    after[other] = min(2, after.get(other, 0) + held[begin])
            held = after
        told.update({(room, other): count for other, count in held.items()})
    return told


def moving(firsts, lasts, **leads):
    """A machine in which each sign leads from each room to one room at most, these written as figures, in order."""
    figures = "0123456789xy"
    steps = [(room, sign, figures.index(figure)) for sign, row in leads.items()
             for room, figure in enumerate(row) if figure != "."]
    many = len(next(iter(leads.values())))
    return many, [figures.index(figure) for figure in firsts], [figures.index(figure) for figure in lasts], steps
