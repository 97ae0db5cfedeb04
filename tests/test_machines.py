"""2.1 and 2.3: what is a machine, and those that are made of one."""

import copy

from tests.helper import Case, crowded, kept, machines, no_machines, oddities
from triesgrow.errors import NoMachine, NoRoom
from triesgrow.machines import beginnings, called, look_at, turned

WHOLE = (3, [0, 2], [1], [(2, "b", 0), (0, "a", 1), (0, "b", 1)])


def changed(part, thing):
    """The whole machine with the thing as this part."""
    told = list(copy.deepcopy(WHOLE))
    told[part] = thing
    return tuple(told)


def step_put(at, thing):
    steps = list(WHOLE[3])
    steps[at] = thing
    return changed(3, steps)


class LookedAt(Case):

    def no_machine(self, thing, part, number):
        self.refused(NoMachine, {"part": part, "number": number}, look_at, thing)

    def test_machines(self):
        for machine in machines():
            self.assertIsNone(kept(look_at, machine))
        for many in range(1, 13):
            rooms = list(range(many))
            self.assertIsNone(look_at((many, rooms, rooms, [(many - 1, "z", many - 1)])))

    def test_called_by_name(self):
        self.assertIsNone(look_at(thing=WHOLE))
        self.refused(NoMachine, {"part": "machine", "number": None}, look_at, thing=3)

    def test_no_tuple_of_four(self):
        for thing in oddities() + [list(WHOLE), WHOLE[:3], WHOLE + ([],), (WHOLE,), {0: WHOLE}, "rooms 1"]:
            self.no_machine(thing, "machine", None)

    def test_many(self):
        for thing in oddities():
            if type(thing) is not int or not 1 <= thing <= 12:
                self.no_machine(changed(0, thing), "many", None)
                self.no_machine((thing, None, None, None), "many", None)
        for many in (0, 13, -1, 14, 10 ** 40, True, 3.0, "3", [3], None):
            self.no_machine((many, [], [], []), "many", None)

    def test_firsts_and_lasts_that_are_no_lists(self):
        for thing in oddities() + [(0, 1), {0: 1}, {0}, range(2), "01"]:
            if not isinstance(thing, list):
                self.no_machine(changed(1, thing), "firsts", None)
                self.no_machine(changed(2, thing), "lasts", None)
                self.no_machine(changed(3, thing), "steps", None)

    def test_rooms_that_are_none(self):
        wrong = [thing for thing in oddities() if type(thing) is not int or not 0 <= thing < 3] + [3, 12, -1, "0", 0.0]
        for part, name in ((1, "firsts"), (2, "lasts")):
            for thing in wrong:
                self.no_machine(changed(part, [thing]), name, 0)
                self.no_machine(changed(part, [0, thing]), name, 1)
                self.no_machine(changed(part, [0, 1, thing]), name, 2)
                self.no_machine(changed(part, [0, thing, 2]), name, 1)
                self.no_machine(changed(part, [thing, 1, 2]), name, 0)

    def test_truths_are_no_rooms(self):
        self.no_machine((2, [0, True], [], []), "firsts", 1)
        self.no_machine((2, [False], [], []), "firsts", 0)
        self.no_machine((2, [], [False, 1], []), "lasts", 0)
        self.no_machine((2, [], [], [(0, "a", True)]), "steps", 0)
        self.no_machine((2, [], [], [(False, "a", 0)]), "steps", 0)

    def test_rooms_that_do_not_rise(self):
        for part, name in ((1, "firsts"), (2, "lasts")):
            for rooms, at in (([0, 0], 1), ([1, 0], 1), ([2, 1, 0], 1), ([0, 2, 1], 2), ([0, 1, 2, 2], 3),
                              ([0, 1, 1, 2], 2), ([0, 1, 2, 0], 3), ([0, 1, 2, 3], 3), ([1, 0, 9], 1), ([9, 0, 0], 0)):
                self.no_machine(changed(part, rooms), name, at)

    def test_the_first_part_that_is_not_so(self):
        self.no_machine((0, None, None, None), "many", None)
        self.no_machine((3, None, None, None), "firsts", None)
        self.no_machine((3, [5], [7, 8], [9]), "firsts", 0)
        self.no_machine((3, [0], [0, 0], [9]), "lasts", 1)
        self.no_machine((3, [0], (), [9]), "lasts", None)
        self.no_machine((3, [0], [0], [9]), "steps", 0)

    def test_things_that_are_no_steps(self):
        wrong = oddities() + [
            (0, "a"), (0, "a", 1, 1), [0, "a", 1], ("a", 0, 1), (0, 1, "a"), (3, "a", 0), (0, "a", 3), (-1, "a", 0),
            (0, "a", -1), (True, "a", 0), (0, "a", True), (0, "", 1), (0, "ab", 1), (0, "A", 1), (0, " ", 1),
            (0, "`", 1), (0, "{", 1), (0, b"a", 1), (0, ["a"], 1), (0, None, 1), (0, 0, 1), (0, ("a",), 1),
            (0.0, "a", 1), (0, "a", 1.0), (None, "a", 1), (0, "a", None), ([0], "a", 1), (0, "a", [1]), ((0, "a", 1),),
            (0, "a", {}), ({}, "a", 1), (0, {}, 1), (0, "a", "1"), (0, "_", 1), (0, "\n", 1),
        ]
        for at in range(3):
            for thing in wrong:
                self.no_machine(step_put(at, thing), "steps", at)

    def test_steps_stood_ahead(self):
        self.no_machine(changed(3, [(0, "a", 1), (0, "a", 1)]), "steps", 1)
        self.no_machine(changed(3, [(0, "a", 1), (1, "a", 0), (2, "a", 2), (1, "a", 0), 5]), "steps", 3)
        self.no_machine(changed(3, [(0, "a", 1), 5, (0, "a", 1)]), "steps", 1)
        self.assertIsNone(look_at(changed(3, [(0, "a", 1), (1, "a", 0), (0, "b", 1), (0, "a", 0)])))

    def test_more_than_200_steps(self):
        many, firsts, lasts, steps = crowded()
        self.assertEqual(len(steps), 200)
        self.assertIsNone(look_at((many, firsts, lasts, steps)))
        self.no_machine((many, firsts, lasts, steps + [(0, "z", 0)]), "steps", None)
        self.no_machine((many, firsts, lasts, steps + steps[:1]), "steps", None)
        self.no_machine((many, firsts, lasts, [None] * 201), "steps", None)
        self.no_machine((many, firsts, lasts, [None] + steps), "steps", None)
        self.no_machine((many, firsts, lasts, [None] * 200), "steps", 0)
        self.no_machine((many, firsts, lasts, steps[:199] + steps[:1]), "steps", 199)

    def test_what_is_handed_in_stays(self):
        for thing, part, number in no_machines():
            before = copy.deepcopy(thing)
            self.no_machine(thing, part, number)
            self.assertEqual(thing, before)


class Turned(Case):

    def test_told(self):
        self.same_kinds(turned(WHOLE), (3, [1], [0, 2], [(0, "b", 2), (1, "a", 0), (1, "b", 0)]))

    def test_turned_twice(self):
        for machine in machines():
            told = kept(turned, machine)
            self.assertIsNone(look_at(told))
            self.assertEqual(told[1:3], (machine[2], machine[1]))
            self.assertEqual(len(told[3]), len(machine[3]))
            self.same_kinds(turned(told), machine)


class Called(Case):

    def test_told(self):
        self.same_kinds(called(WHOLE, [1, 2, 0]), (3, [0, 1], [2], [(0, "b", 1), (1, "a", 2), (1, "b", 2)]))
        self.same_kinds(called(WHOLE, [2, 1, 0]), (3, [0, 2], [1], [(0, "b", 2), (2, "a", 1), (2, "b", 1)]))

    def test_called_as_before(self):
        for machine in machines():
            many = machine[0]
            self.same_kinds(kept(called, machine, list(range(many))), machine)
            round_about = [(room + 1) % many for room in range(many)]
            told = kept(called, machine, round_about)
            self.assertIsNone(look_at(told))
            self.same_kinds(called(told, [(room - 1) % many for room in range(many)]), machine)

    def test_no_rooms(self):
        wrong = oddities() + [
            (0, 1, 2), [0, 1], [0, 1, 2, 3], [0, 1, 1], [0, 1, 3], [1, 2, 3], [-1, 0, 1], [0, True, 2], [False, 1, 2],
            [0.0, 1, 2], [0, 1, "2"], ["0", "1", "2"], [0, 1, None], [0, 1, [2]], [[0], [1], [2]], [0, 1, {}], "012",
            {0: 0, 1: 1, 2: 2}, {0, 1, 2}, range(3), [0, 1, 2.0], [2, 2, 2], [0, 1, 2, 2], [None] * 3,
        ]
        for thing in wrong:
            self.refused(NoRoom, {"room": None}, called, WHOLE, thing)
        self.refused(NoRoom, {"room": None}, called, (1, [], [], []), [False])
        self.refused(NoRoom, {"room": None}, called, (2, [], [], []), [True, 0])
        self.refused(NoRoom, {"room": None}, called, (1, [], [], []), [])


class Beginnings(Case):

    def test_told(self):
        self.same_kinds(beginnings(WHOLE), (3, [0, 2], [0, 1, 2], WHOLE[3]))
        for machine in machines():
            many, firsts, _, steps = machine
            self.same_kinds(kept(beginnings, machine), (many, firsts, list(range(many)), steps))


class All(Case):

    def calls(self):
        return [turned, lambda machine: called(machine, [2, 0, 1]), beginnings]

    def test_what_is_no_machine(self):
        things = no_machines() + [(thing, "machine", None) for thing in oddities()]
        for thing, part, number in things:
            values = {"part": part, "number": number}
            self.refused(NoMachine, values, turned, thing)
            self.refused(NoMachine, values, beginnings, thing)
            for rooms in ([0, 1], None, [True, False], "01"):
                self.refused(NoMachine, values, called, thing, rooms)

    def test_told_lists_are_the_askers_own(self):
        for call in self.calls():
            machine = copy.deepcopy(WHOLE)
            told = call(machine)
            before = copy.deepcopy(told)
            for part in told[1:]:
                part.append("changed")
            self.assertEqual(machine, WHOLE)
            self.assertEqual(call(machine), before)

    def test_what_was_handed_in_may_be_changed(self):
        for call in self.calls():
            machine = copy.deepcopy(WHOLE)
            told = call(machine)
            before = copy.deepcopy(told)
            for part in machine[1:]:
                part.clear()
            self.assertEqual(told, before)

    def test_rooms_handed_in_may_be_changed(self):
        rooms = [1, 2, 0]
        told = called(WHOLE, rooms)
        rooms.reverse()
        self.assertEqual(told, called(WHOLE, [1, 2, 0]))

    def test_called_by_name(self):
        self.assertEqual(turned(machine=WHOLE), turned(WHOLE))
        self.assertEqual(called(machine=WHOLE, rooms=[1, 2, 0]), called(WHOLE, [1, 2, 0]))
        self.assertEqual(beginnings(machine=WHOLE), beginnings(WHOLE))
