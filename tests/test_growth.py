"""0.4, 9.1: the ranks of rooms, and how ways grow, held against ways that were counted."""

import copy
from math import comb

from tests.helper import (BESIDE, INTO, RINGS, Case, by_pairs, chain, crowded, growing, kept, led_to, machines,
                          no_machines, oddities, useful_rooms, words)
from tests.test_rounds import THREE, TURNS, drawn, place_by_place, signs_in
from triesgrow.errors import NoMachine
from triesgrow.growth import growth, ranks
from triesgrow.machines import called, turned
from triesgrow.ways import ways


def ranks_by_chains(machine):
    """The ranks, found by going through all chains of pairs one by one."""
    double, led = place_by_place(machine)
    if double:
        return None
    rooms = useful_rooms(machine)

    def longest(room):
        return max([1 + longest(begin) for begin, other, _ in led if room in led_to(machine, [other])], default=0)

    return [longest(room) if room in rooms else None for room in range(machine[0])]


def small():
    return [machine for machine in machines() if machine[0] <= 5] + drawn(43, 80)


class Ranks(Case):

    def test_chains_of_pairs_one_by_one(self):
        seen = set()
        for machine in small() + [THREE, TURNS, INTO, BESIDE] + [machine for machine, _ in growing() if machine[0] < 9]:
            wanted = ranks_by_chains(machine)
            told = kept(ranks, machine)
            self.same_kinds(told, wanted)
            seen.add(told and max([rank for rank in told if rank is not None], default=0))
        self.assertEqual(seen, {None, 0, 1, 2, 3, 4, 5, 6, 7})

    def test_told(self):
        for many in range(1, 13):
            self.same_kinds(ranks(chain(many)), list(range(many)))
        self.same_kinds(ranks(INTO), [0] * 5 + [1] * 7)
        self.same_kinds(ranks(THREE), [0] * 3 + [1] * 4 + [2] * 5)
        self.same_kinds(ranks(BESIDE), [0, 1, None, None, None])
        self.same_kinds(ranks(RINGS), None)
        self.same_kinds(ranks(crowded()), None)

    def test_without_useful_rooms(self):
        self.same_kinds(ranks((1, [], [], [])), [None])
        self.same_kinds(ranks((12, [], [0], chain(12)[3])), [None] * 12)
        self.same_kinds(ranks((3, [0, 1], [2], [(0, "a", 1), (1, "a", 0), (0, "a", 0)])), [None] * 3)
        self.same_kinds(ranks((3, [0], [0], [(0, "a", 1), (1, "a", 1), (1, "a", 2), (2, "a", 1)])), [0, None, None])

    def test_the_longer_of_two_chains_counts(self):
        steps = [(room, "a", room) for room in range(5)] + [(0, "a", 1), (1, "a", 2), (0, "a", 3), (3, "b", 2),
                                                            (2, "b", 4)]
        self.same_kinds(ranks((5, [0], [4], steps)), [0, 1, 2, 1, 2])
        # What follows a pair need not be led by it: a word, or none, leads there.
        self.same_kinds(ranks((5, [3], [4], steps)), [None, None, 0, 0, 0])

    def test_rank_never_falls_along_steps_and_rises_where_rounds_are_led(self):
        for machine in small() + [THREE, TURNS, INTO, chain(12)]:
            told = ranks(machine)
            if told is not None:
                rooms = useful_rooms(machine)
                for room, _, other in machine[3]:
                    if room in rooms and other in rooms:
                        self.assertLessEqual(told[room], told[other])
                for word in words(signs_in(machine), 4):
                    counts = by_pairs(machine, word)
                    for room in rooms:
                        for other in rooms:
                            if room != other and {(room, room), (room, other), (other, other)} <= counts.keys():
                                self.assertLess(told[room], told[other])

    def test_called_otherwise(self):
        for machine in small() + [THREE]:
            names = list(range(machine[0]))[::-1]
            told = ranks(machine)
            self.assertEqual(ranks(called(machine, names)), told and [told[room] for room in names])
            self.assertEqual(growth(called(machine, names)), growth(machine))
            self.assertEqual(growth(turned(machine)), growth(machine))


class Growth(Case):

    def test_told(self):
        for machine, wanted in growing():
            self.same_kinds(kept(growth, machine), wanted)
        self.same_kinds(growth(THREE), ("power", 2))
        self.same_kinds(growth(TURNS), ("power", 1))

    def test_as_the_ranks_tell(self):
        seen = set()
        for machine in small() + machines():
            told = ranks(machine)
            greatest = told and max([rank for rank in told if rank is not None], default=0)
            wanted = ("doubles",) if told is None else ("power", greatest) if greatest else ("never",)
            self.same_kinds(growth(machine), wanted)
            seen.add(wanted)
        self.assertEqual(seen, {("doubles",), ("never",), ("power", 1)})

    def test_as_ways_of_long_words_grow(self):
        for many in range(1, 13):
            self.assertEqual(growth(chain(many)), ("power", many - 1) if many > 1 else ("never",))
            for signs in (0, 1, 40, 400):
                self.assertEqual(ways(chain(many), "a" * signs), comb(signs, many - 1))
        self.assertEqual(ways(INTO, "a" * 400) - ways(INTO, "a" * 365), 1)
        self.assertGreater(ways(RINGS, "a" * 360), 1 << 30)

    def test_rooms_that_go_double_and_are_not_useful(self):
        self.same_kinds(growth(BESIDE), ("power", 1))
        self.same_kinds(growth((5, [2], [4], BESIDE[3])), ("doubles",))
        self.same_kinds(growth((12, [0], [], crowded()[3])), ("never",))

    def test_called_by_name(self):
        self.assertEqual(ranks(machine=chain(2)), [0, 1])
        self.assertEqual(growth(machine=chain(2)), ("power", 1))


class Refused(Case):

    def test_what_is_no_machine(self):
        for thing, part, number in no_machines() + [(thing, "machine", None) for thing in oddities()]:
            self.refused(NoMachine, {"part": part, "number": number}, ranks, thing)
            self.refused(NoMachine, {"part": part, "number": number}, growth, thing)


class Own(Case):

    def test_told_lists_are_the_askers_own(self):
        for machine in (chain(4), INTO, (1, [], [], [])):
            before = copy.deepcopy(machine)
            told = ranks(machine)
            wanted = list(told)
            told[0] = "changed"
            told.append("changed")
            self.assertEqual(machine, before)
            self.assertEqual(ranks(machine), wanted)
