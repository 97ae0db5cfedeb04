"""8.1: useful rooms, trimmed machines, shortest words between rooms."""

import copy

from tests.helper import Case, crowded, kept, machines, no_machines, oddities, words
from tests.test_sets import signs_in
from tests.test_ways import BOTH, WHOLE
from triesgrow.errors import NoMachine, NoRoom
from triesgrow.machines import look_at, turned
from triesgrow.useful import text_between, trimmed, useful
from triesgrow.ways import ways

# Room 3 leads to no last, no first leads to room 4, neither holds of room 5.
PARTLY = (6, [0, 3], [2, 4], [(4, "a", 2), (0, "b", 1), (1, "a", 3), (1, "a", 2), (5, "a", 5), (0, "a", 0),
                              (3, "b", 3), (4, "c", 4), (2, "a", 1)])
CHAIN = (12, [0], [11], [(room, "abcdefghijk"[room], room + 1) for room in range(10, -1, -1)])


def small():
    return [machine for machine in machines() if machine[0] <= 5]


def led_by_words(machine):
    """For each room and each other one the first of all words, the shorter ones ahead, that leads to the other."""
    told = {}
    many, _, _, steps = machine
    for room in range(many):
        for word in words("".join(signs_in(machine)), many - 1):
            rooms = {room}
            for sign in word:
                rooms = {other for begin, by, other in steps if begin in rooms and by == sign}
            for other in rooms:
                told.setdefault((room, other), word)
    return told


def useful_by_words(machine):
    many, firsts, lasts, _ = machine
    led = led_by_words(machine)
    return [room for room in range(many)
            if any((first, room) in led for first in firsts) and any((room, last) in led for last in lasts)]


class Useful(Case):

    def test_found_by_all_words(self):
        for machine in small() + [PARTLY]:
            self.same_kinds(kept(useful, machine), useful_by_words(machine))

    def test_told(self):
        self.same_kinds(useful(PARTLY), [0, 1, 2])
        self.same_kinds(useful(WHOLE), [0, 1, 2])
        self.same_kinds(useful(CHAIN), list(range(12)))
        self.same_kinds(useful(turned(CHAIN)), list(range(12)))
        self.same_kinds(useful(crowded()), list(range(9)))

    def test_a_first_that_is_a_last(self):
        self.same_kinds(useful((3, [1], [1], [])), [1])
        self.same_kinds(useful((3, [0, 1], [1, 2], [])), [1])
        self.same_kinds(useful((1, [0], [0], [])), [0])

    def test_without_firsts_lasts_or_steps(self):
        self.same_kinds(useful((2, [], [0, 1], [(0, "a", 1)])), [])
        self.same_kinds(useful((2, [0, 1], [], [(0, "a", 1)])), [])
        self.same_kinds(useful((2, [0], [1], [])), [])
        self.same_kinds(useful((1, [], [], [])), [])

    def test_a_chain_that_breaks(self):
        many, firsts, lasts, steps = CHAIN
        for at in range(11):
            self.assertEqual(useful((many, firsts, lasts, steps[:at] + steps[at + 1:])), [])


class Trimmed(Case):

    def test_told(self):
        self.same_kinds(trimmed(PARTLY), (6, [0], [2], [(0, "b", 1), (1, "a", 2), (0, "a", 0), (2, "a", 1)]))
        self.same_kinds(trimmed(WHOLE), WHOLE)
        self.same_kinds(trimmed(CHAIN), CHAIN)
        self.same_kinds(trimmed((2, [0], [1], [(0, "a", 0)])), (2, [], [], []))
        self.same_kinds(trimmed((3, [0, 1], [1, 2], [(2, "a", 1)])), (3, [1], [1], []))

    def test_what_belongs_to_useful_rooms(self):
        for machine in small() + [PARTLY]:
            many, firsts, lasts, steps = machine
            rooms = useful_by_words(machine)
            told = kept(trimmed, machine)
            self.assertIsNone(look_at(told))
            self.same_kinds(told, (
                many, [room for room in firsts if room in rooms], [room for room in lasts if room in rooms],
                [step for step in steps if step[0] in rooms and step[2] in rooms]))

    def test_words_have_as_many_ways(self):
        for machine in machines() + [PARTLY]:
            told = trimmed(machine)
            for word in words("abz", 4):
                self.assertEqual(ways(told, word), ways(machine, word))
            self.assertEqual(trimmed(told), told)
            self.assertEqual(useful(told), useful(machine))

    def test_told_lists_are_the_askers_own(self):
        for machine in (WHOLE, BOTH, PARTLY, (1, [], [], [])):
            before = copy.deepcopy(machine)
            told = trimmed(machine)
            wanted = copy.deepcopy(told)
            for part in told[1:]:
                part.append("changed")
            self.assertEqual(machine, before)
            self.assertEqual(trimmed(machine), wanted)
            rooms = useful(machine)
            rooms.append(9)
            self.assertEqual(useful(machine), rooms[:-1])


class Between(Case):

    def test_found_by_all_words(self):
        for machine in small() + [PARTLY]:
            led = led_by_words(machine)
            for room in range(machine[0]):
                for other in range(machine[0]):
                    self.same_kinds(kept(text_between, machine, room, other), led.get((room, other)))

    def test_a_room_and_itself(self):
        for machine in machines():
            for room in range(machine[0]):
                self.same_kinds(text_between(machine, room, room), "")

    def test_the_first_of_several_as_letters_go(self):
        # To room 5 lead aba and aaz, by rooms of which the one ahead in the first word comes first.
        machine = (6, [], [], [(0, "a", 1), (0, "a", 2), (1, "b", 3), (2, "a", 4), (3, "a", 5), (4, "z", 5)])
        self.same_kinds(text_between(machine, 0, 5), "aaz")
        self.same_kinds(text_between(machine, 0, 3), "ab")
        machine = (3, [], [], [(0, "c", 2), (0, "b", 2), (0, "a", 1), (1, "a", 2)])
        self.same_kinds(text_between(machine, 0, 2), "b")
        machine = (4, [], [], [(0, "b", 1), (1, "a", 3), (0, "a", 2), (2, "z", 3), (3, "z", 0), (2, "y", 3)])
        self.same_kinds(text_between(machine, 0, 3), "ay")
        self.same_kinds(text_between(machine, 3, 2), "za")

    def test_rooms_that_are_not_useful(self):
        self.same_kinds(text_between(PARTLY, 4, 3), "aaa")
        self.same_kinds(text_between(PARTLY, 5, 0), None)
        self.same_kinds(text_between((2, [], [], [(1, "z", 0)]), 1, 0), "z")
        self.same_kinds(text_between((2, [], [], [(1, "z", 0)]), 0, 1), None)

    def test_twelve_rooms(self):
        self.same_kinds(text_between(CHAIN, 0, 11), "abcdefghijk")
        self.same_kinds(text_between(CHAIN, 3, 7), "defg")
        self.same_kinds(text_between(CHAIN, 11, 0), None)
        ring = (12, [], [], CHAIN[3] + [(11, "z", 0)])
        self.same_kinds(text_between(ring, 11, 10), "zabcdefghij")
        for room in range(12):
            for other in range(12):
                told = text_between(crowded(), room, other)
                listed = [step[1] for step in crowded()[3] if step[0] == room and step[2] == other]
                if room != other and listed:
                    self.assertEqual(told, min(listed))

    def test_called_by_name(self):
        self.assertEqual(useful(machine=PARTLY), [0, 1, 2])
        self.assertEqual(trimmed(machine=BOTH), BOTH)
        self.assertEqual(text_between(machine=CHAIN, room=3, other=5), "de")
        self.assertEqual(text_between(other=5, machine=CHAIN, room=4), "e")


class Refused(Case):

    def test_what_is_no_machine_ahead_of_all_else(self):
        for thing, part, number in no_machines() + [(thing, "machine", None) for thing in oddities()]:
            values = {"part": part, "number": number}
            self.refused(NoMachine, values, useful, thing)
            self.refused(NoMachine, values, trimmed, thing)
            self.refused(NoMachine, values, text_between, thing, 0, 0)
            self.refused(NoMachine, values, text_between, thing, 99, None)

    def test_what_is_no_room(self):
        for thing in oddities() + [3, -1, 12, "0", True, False, [0]]:
            if type(thing) is not int or not 0 <= thing < 3:
                self.refused(NoRoom, {"room": thing}, text_between, WHOLE, thing, 0)
                self.refused(NoRoom, {"room": thing}, text_between, WHOLE, 0, thing)
                self.refused(NoRoom, {"room": thing}, text_between, WHOLE, thing, 77)
                self.refused(NoRoom, {"room": 77}, text_between, WHOLE, 77, thing)
                self.refused(NoRoom, {"room": thing}, text_between, WHOLE, thing, thing)
        self.refused(NoRoom, {"room": 12}, text_between, CHAIN, 11, 12)
        self.refused(NoRoom, {"room": 1}, text_between, (1, [], [], []), 0, 1)
