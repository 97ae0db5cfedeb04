"""8.2, 8.3: the rooms that go double, and those that lead other ones' rounds, each with its first word."""

import copy
import random

from tests.helper import (BESIDE, INTO, RINGS, Case, by_pairs, chain, crowded, few_by_pairs, growing, kept, machines,
                          no_machines, oddities, ring, useful_rooms, words)
from triesgrow.errors import NoMachine
from triesgrow.machines import called
from triesgrow.rounds import double_rounds, led_rounds
from triesgrow.ways import ways

# Rings of three, four and five rooms: the first one leads into the last by way of the second.
THREE = (12, [0], [11], ring([0, 1, 2], "a") + ring([3, 4, 5, 6], "a") + ring([7, 8, 9, 10, 11], "a")
         + [(0, "a", 3), (5, "a", 8)])
# A ring with words of its own, that leads into one by which any sign leads on.
TURNS = (10, [0], [9], ring([0, 1, 2], "aab") + ring(list(range(3, 10)), "a") + ring(list(range(3, 10)), "b")
         + [(0, "a", 3), (2, "b", 4)])
LONG = [RINGS, INTO, THREE, TURNS, BESIDE, (12, [0], [0], ring(list(range(12)), "abb") + [(3, "a", 7), (2, "b", 9)])]


def signs_in(machine):
    return "".join(sorted({step[1] for step in machine[3]}))


def drawn(seed, many):
    """Small machines put together by chance, the same ones in each run."""
    chance = random.Random(seed)
    told = []
    for _ in range(many):
        rooms = chance.randint(2, 4)
        every = [(room, sign, other) for room in range(rooms) for sign in "ab" for other in range(rooms)]
        steps = chance.sample(every, chance.randint(rooms, 2 * rooms + 1))
        lasts = sorted({chance.randrange(rooms), rooms - 1})
        told.append((rooms, [chance.randrange(rooms)], lasts, steps))
    return told


def small():
    """Small machines, each with how many signs the words have by which it is looked at."""
    told = [(machine, 5 if len(signs_in(machine)) < 3 else 4) for machine in machines() if machine[0] <= 5]
    told += [(machine, 5) for machine, _ in growing() if machine[0] <= 4]
    return told + [(machine, 7) for machine in drawn(29, 60)]


def by_words(machine, most):
    """What both functions tell, as far as all words of at most so many signs tell it."""
    rooms = useful_rooms(machine)
    double, led = {}, {}
    for word in words(signs_in(machine), most):
        counts = by_pairs(machine, word)
        for room in rooms:
            if counts.get((room, room), 0) > 1:
                double.setdefault(room, word)
            for other in rooms:
                if room != other and {(room, room), (room, other), (other, other)} <= counts.keys():
                    led.setdefault((room, other), word)
    return [(room, double[room]) for room in sorted(double)], [(*pair, led[pair]) for pair in sorted(led)]


def first_word(machine, starts, ends, parted):
    """The first word on which ways that go abreast lead from the starts to the ends, place by place.

    Where parted is told the ways are two, and unlike ones: it is put behind their rooms once they have been apart.
    """
    found = {(*starts, False): ""}
    seen = set(found)
    while found and (*ends, parted) not in found:
        longer = {}
        for (*rooms, apart), word in found.items():
            for sign in signs_in(machine):
                nexts = [()]
                for room in rooms:
                    nexts = [led + (other,) for led in nexts for begin, by, other in machine[3]
                             if begin == room and by == sign]
                for led in nexts:
                    place = (*led, parted and (apart or led[0] != led[1]))
                    longer[place] = min(word + sign, longer.get(place, word + sign))
        found = {place: word for place, word in longer.items() if place not in seen}
        seen |= found.keys()
    return found.get((*ends, parted))


def place_by_place(machine):
    """What both functions tell, found by going from place to place one by one."""
    rooms = useful_rooms(machine)
    double = [(room, first_word(machine, (room, room), (room, room), True)) for room in rooms]
    led = [(room, other, first_word(machine, (room, room, other), (room, other, other), False))
           for room in rooms for other in rooms if room != other]
    return [row for row in double if row[-1] is not None], [row for row in led if row[-1] is not None]


class Found(Case):

    def test_by_all_words_up_to_some_length(self):
        doubling = leading = 0
        for machine, most in small():
            double, led = by_words(machine, most)
            self.same_kinds([row for row in kept(double_rounds, machine) if len(row[1]) <= most], double)
            self.same_kinds([row for row in kept(led_rounds, machine) if len(row[2]) <= most], led)
            doubling += len(double)
            leading += len(led)
        self.assertGreater(doubling, 30)
        self.assertGreater(leading, 60)

    def test_place_by_place(self):
        for machine in LONG + drawn(31, 60) + [machine for machine, _ in growing() if machine != crowded()]:
            double, led = place_by_place(machine)
            self.same_kinds(double_rounds(machine), double)
            self.same_kinds(led_rounds(machine), led)

    def test_the_words_hold(self):
        for machine in LONG + machines() + [machine for machine, _ in growing()]:
            rooms = useful_rooms(machine)
            for room, word in double_rounds(machine)[:4]:
                self.assertIn(room, rooms)
                self.assertEqual(few_by_pairs(machine, word)[room, room], 2)
                self.assertGreater(ways((machine[0], [room], [room], machine[3]), word), 1)
            for room, other, word in led_rounds(machine)[:4]:
                counts = few_by_pairs(machine, word)
                self.assertTrue(room != other and {room, other} <= set(rooms) and word)
                self.assertTrue(counts.get((room, room)) and counts.get((room, other)) and counts.get((other, other)))


class Told(Case):

    def test_long_words(self):
        # Twelve signs are once five and seven, and once seven and five; 35 are a round of both rings.
        self.assertEqual(double_rounds(RINGS)[0], (0, "a" * 12))
        self.assertEqual([word for _, word in double_rounds(RINGS)][1:], ["a" * 17] * 4 + ["a" * 19] * 6)
        self.same_kinds(double_rounds(INTO), [])
        self.same_kinds(led_rounds(INTO), [(room, other, "a" * 35) for room in range(5) for other in range(5, 12)])
        self.same_kinds(double_rounds(THREE), [])
        self.assertEqual({(room // 3 if room < 3 else 1 if room < 7 else 2, len(word))
                          for room, other, word in led_rounds(THREE) if other > 6}, {(0, 15), (1, 20)})
        self.same_kinds(led_rounds(TURNS), [
            (room, other, ("aab" * 8)[room:room + 21]) for room in range(3) for other in range(3, 10)])

    def test_the_first_of_several_as_letters_go(self):
        machine = (3, [0], [0], [(0, "b", 0), (0, "b", 1), (1, "a", 0), (0, "a", 0), (0, "a", 2), (2, "z", 0),
                                 (0, "z", 0)])
        self.same_kinds(double_rounds(machine), [(0, "az"), (1, "aazb"), (2, "zaza")])
        self.same_kinds(double_rounds((1, [0], [0], [(0, "a", 0), (0, "b", 0)])), [])
        machine = (2, [0], [1], [(0, "c", 0), (0, "c", 1), (1, "c", 1), (0, "b", 0), (0, "b", 1), (1, "b", 1),
                                 (0, "a", 0), (1, "a", 1)])
        self.same_kinds(led_rounds(machine), [(0, 1, "b")])

    def test_rising(self):
        for machine in machines() + LONG:
            double, led = double_rounds(machine), led_rounds(machine)
            self.assertEqual([room for room, _ in double], sorted({room for room, _ in double}))
            self.assertEqual([row[:2] for row in led], sorted({row[:2] for row in led}))

    def test_a_chain_of_twelve(self):
        self.same_kinds(double_rounds(chain(12)), [])
        self.same_kinds(led_rounds(chain(12)), [
            (room, other, "a" * (other - room)) for room in range(12) for other in range(room + 1, 12)])

    def test_rooms_that_are_not_useful_tell_nothing(self):
        self.same_kinds(double_rounds(BESIDE), [])
        self.same_kinds(led_rounds(BESIDE), [(0, 1, "a")])
        whole = (5, list(range(5)), list(range(5)), BESIDE[3])
        self.same_kinds([room for room, _ in double_rounds(whole)], [2, 3])
        self.assertIn((2, 3, "aa"), [row for row in led_rounds(whole)])
        for firsts, lasts in (([], [0]), ([0], [])):
            self.same_kinds(double_rounds((12, firsts, lasts, crowded()[3])), [])
            self.same_kinds(led_rounds((12, firsts, lasts, chain(12)[3])), [])

    def test_a_round_has_signs_and_the_rooms_are_unlike(self):
        for machine in ((1, [0], [0], []), (12, list(range(12)), list(range(12)), []),
                        (2, [0], [1], [(0, "a", 1)]), (1, [0], [0], [(0, "a", 0)])):
            self.same_kinds(double_rounds(machine), [])
            self.same_kinds(led_rounds(machine), [])

    def test_rooms_within_one_ring_that_lead_each_other(self):
        machine = (2, [0], [1], [(0, "a", 0), (0, "a", 1), (1, "a", 0), (1, "a", 1)])
        self.same_kinds(double_rounds(machine), [(0, "aa"), (1, "aa")])
        self.same_kinds(led_rounds(machine), [(0, 1, "a"), (1, 0, "a")])

    def test_twelve_rooms_and_200_steps(self):
        self.same_kinds([room for room, _ in double_rounds(crowded())], list(range(9)))
        chance = random.Random(37)
        for signs in ("ab", "abcdef", "abcdefghijklmnopqrstuvwxyz"):
            every = [(room, sign, other) for room in range(12) for sign in signs for other in range(12)]
            machine = (12, [0], [11], chance.sample(every, 200))
            double, led = double_rounds(machine), led_rounds(machine)
            self.assertEqual(len(double), 12)
            for room, word in double:
                self.assertEqual(few_by_pairs(machine, word)[room, room], 2)
            for room, other, word in led:
                self.assertTrue({(room, room), (room, other), (other, other)} <= few_by_pairs(machine, word).keys())

    def test_neither_the_order_of_steps_nor_what_rooms_are_called_changes_what_is_told(self):
        for machine in drawn(41, 20) + [THREE, BESIDE]:
            many, firsts, lasts, steps = machine
            self.assertEqual(double_rounds((many, firsts, lasts, steps[::-1])), double_rounds(machine))
            self.assertEqual(led_rounds((many, firsts, lasts, steps[::-1])), led_rounds(machine))
            names = list(range(many))[::-1]
            other = called(machine, names)
            self.assertEqual(double_rounds(other), sorted((names[room], word) for room, word in double_rounds(machine)))
            self.assertEqual(led_rounds(other), sorted((names[room], names[end], word)
                                                       for room, end, word in led_rounds(machine)))

    def test_called_by_name(self):
        self.assertEqual(double_rounds(machine=chain(2)), [])
        self.assertEqual(led_rounds(machine=chain(2)), [(0, 1, "a")])


class Refused(Case):

    def test_what_is_no_machine(self):
        for thing, part, number in no_machines() + [(thing, "machine", None) for thing in oddities()]:
            self.refused(NoMachine, {"part": part, "number": number}, double_rounds, thing)
            self.refused(NoMachine, {"part": part, "number": number}, led_rounds, thing)


class Own(Case):

    def test_told_lists_are_the_askers_own(self):
        for machine in (RINGS, chain(4), crowded(), (1, [], [], [])):
            for function in (double_rounds, led_rounds):
                before = copy.deepcopy(machine)
                told = kept(function, machine)
                wanted = list(told)
                told.append("changed")
                self.assertEqual(machine, before)
                self.assertEqual(function(machine), wanted)
