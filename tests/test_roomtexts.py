"""6.2: rooms written as texts, and such texts read to the rooms."""

import itertools
import random

from tests.helper import Case, kept, machines, no_machines, oddities
from tests.test_ways import WHOLE
from triesgrow.errors import NoMachine, NoRoom, NoWord
from triesgrow.roomtexts import rooms_in, rooms_text

LARGE = (12, [], [], [])


class Told(Case):

    def test_rooms_as_a_text(self):
        self.same_kinds(rooms_text(WHOLE, []), "000")
        self.same_kinds(rooms_text(WHOLE, [0]), "100")
        self.same_kinds(rooms_text(WHOLE, [2]), "001")
        self.same_kinds(rooms_text(WHOLE, [2, 0]), "101")
        self.same_kinds(rooms_text(WHOLE, [1, 2, 0]), "111")
        self.same_kinds(rooms_text(LARGE, [11, 10, 1]), "010000000011")
        self.same_kinds(rooms_text((1, [], [], []), []), "0")
        self.same_kinds(rooms_text((1, [], [], []), [0, 0]), "1")

    def test_a_room_several_times(self):
        self.same_kinds(rooms_text(WHOLE, [1, 1]), "010")
        self.same_kinds(rooms_text(WHOLE, [2, 0, 2, 2, 0]), "101")
        self.same_kinds(rooms_text(WHOLE, [2] * 1000), "001")

    def test_a_text_read_to_rooms(self):
        self.same_kinds(rooms_in(WHOLE, "000"), [])
        self.same_kinds(rooms_in(WHOLE, "101"), [0, 2])
        self.same_kinds(rooms_in(WHOLE, "111"), [0, 1, 2])
        self.same_kinds(rooms_in(LARGE, "010000000011"), [1, 10, 11])

    def test_all_lists_of_few_rooms(self):
        for many in range(1, 7):
            machine = (many, [], [], [])
            for marks in itertools.product("01", repeat=many):
                rooms = [room for room in range(many) if marks[room] == "1"]
                self.same_kinds(kept(rooms_in, machine, "".join(marks)), rooms)
                self.same_kinds(kept(rooms_text, machine, rooms), "".join(marks))
                self.same_kinds(kept(rooms_text, machine, rooms[::-1]), "".join(marks))

    def test_drawn_lists(self):
        chance = random.Random(5)
        for machine in machines():
            for _ in range(20):
                rooms = [chance.randrange(machine[0]) for _ in range(chance.randint(0, 15))]
                text = kept(rooms_text, machine, rooms)
                self.assertEqual(rooms_in(machine, text), sorted(set(rooms)))
                self.assertEqual(rooms_text(machine, rooms_in(machine, text)), text)

    def test_called_by_name(self):
        self.assertEqual(rooms_text(machine=WHOLE, rooms=[1]), "010")
        self.assertEqual(rooms_in(machine=WHOLE, text="010"), [1])

    def test_told_lists_are_the_askers_own(self):
        told = rooms_in(WHOLE, "110")
        told.append(9)
        told[0] = 9
        self.assertEqual(rooms_in(WHOLE, "110"), [0, 1])


class Refused(Case):

    def test_what_is_no_machine_ahead_of_all_else(self):
        for thing, part, number in no_machines() + [(thing, "machine", None) for thing in oddities()]:
            values = {"part": part, "number": number}
            for rooms in ([], [99], ["a"]):
                self.refused(NoMachine, values, rooms_text, thing, rooms)
            for text in ("00", "a", None):
                self.refused(NoMachine, values, rooms_in, thing, text)

    def test_what_is_no_room(self):
        for thing in oddities():
            if type(thing) is not int or not 0 <= thing < 3:
                for rooms in ([thing], [0, thing], [thing, 2, 1], [1, 1, thing, 77], [0, 1, 2, thing, None]):
                    self.refused(NoRoom, {"room": thing}, rooms_text, WHOLE, rooms)
        for room in (3, -1, 12, 10 ** 50):
            self.refused(NoRoom, {"room": room}, rooms_text, WHOLE, [0, room, None])
        self.refused(NoRoom, {"room": 12}, rooms_text, LARGE, [11, 12])
        self.refused(NoRoom, {"room": 1}, rooms_text, (1, [], [], []), [0, 1])
        self.refused(NoRoom, {"room": True}, rooms_text, WHOLE, [1, True])

    def test_what_is_no_text_of_rooms(self):
        others = ["00", "0000", "", "002", "0 1", "00a", " 00", "01\n", "00 ", "OO1", "00-", "0.1", "1e1", "+01"]
        others += [["0", "0", "0"], [0, 0, 1], ("0", "0", "1"), b"001", 101, 0, None, True, {"001": 1}]
        for thing in others + oddities():
            self.refused(NoWord, {"at": None}, rooms_in, WHOLE, thing)
        for sign in map(chr, range(128)):
            if sign not in "01":
                self.refused(NoWord, {"at": None}, rooms_in, WHOLE, "0" + sign + "1")
        self.refused(NoWord, {"at": None}, rooms_in, LARGE, "0" * 11)
        self.refused(NoWord, {"at": None}, rooms_in, LARGE, "0" * 13)
        self.refused(NoWord, {"at": None}, rooms_in, (1, [], [], []), "")
        self.refused(NoWord, {"at": None}, rooms_in, (1, [], [], []), "01")
        self.refused(NoWord, {"at": None}, rooms_in, LARGE, "0" * 20000)
