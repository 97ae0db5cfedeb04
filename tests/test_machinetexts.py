"""2.2: the texts of machines, and the reading of any text."""

import copy
import re

from tests.helper import Case, crowded, kept, machines, no_machines, oddities
from triesgrow.errors import NoMachine, NoText
from triesgrow.machines import look_at
from triesgrow.machinetexts import read_machine, shown_machine

TEXTS = {
    "rooms 1\nfirst\nlast": (1, [], [], []),
    "rooms 1\nfirst 0\nlast 0\n0 a 0": (1, [0], [0], [(0, "a", 0)]),
    "rooms 3\nfirst 0 2\nlast 1\n2 b 0\n0 a 1\n0 b 1": (3, [0, 2], [1], [(2, "b", 0), (0, "a", 1), (0, "b", 1)]),
    "rooms 12\nfirst 9 10 11\nlast\n11 z 10\n10 z 11\n1 y 9": (
        12, [9, 10, 11], [], [(11, "z", 10), (10, "z", 11), (1, "y", 9)]),
}
HEAD = "rooms 3\nfirst 0\nlast 1"
SIGNS = "0123569 \n\tabrz-+_.A"


def writes_a_machine(text):
    found = re.fullmatch(r"rooms ([0-9]+)\nfirst((?: [0-9]+)*)\nlast((?: [0-9]+)*)((?:\n[0-9]+ [a-z] [0-9]+)*)", text)
    if not found or any(figures != str(int(figures)) for figures in re.findall("[0-9]+", text)):
        return False
    many = int(found[1])
    firsts, lasts = [[int(room) for room in found[part].split()] for part in (2, 3)]
    steps = found[4].split("\n")[1:]
    rooms = firsts + lasts + [int(room) for step in steps for room in step.split()[::2]]
    unlike = [each == sorted(set(each)) for each in (firsts, lasts)] + [len(set(steps)) == len(steps) <= 200]
    return 1 <= many <= 12 and all(room < many for room in rooms) and all(unlike)


def fault_of(text):
    """The first row that can't stand, or how many rows there are."""
    rows = text.split("\n")
    rest = ["rooms 12", "first", "last"]
    for at in range(len(rows)):
        if not writes_a_machine("\n".join(rows[:at + 1] + rest[at + 1:])):
            return at
    return len(rows)


class Texts(Case):

    def test_shown(self):
        for text, machine in TEXTS.items():
            self.same_kinds(kept(shown_machine, machine), text)

    def test_read(self):
        for text, machine in TEXTS.items():
            self.same_kinds(read_machine(text), machine)

    def test_shown_and_read_again(self):
        for machine in machines():
            text = shown_machine(machine)
            self.assertTrue(writes_a_machine(text))
            self.same_kinds(read_machine(text), machine)

    def test_what_is_no_machine(self):
        for thing, part, number in no_machines() + [(thing, "machine", None) for thing in oddities()]:
            self.refused(NoMachine, {"part": part, "number": number}, shown_machine, thing)

    def test_told_lists_are_the_askers_own(self):
        for text, machine in TEXTS.items():
            told = read_machine(text)
            for part in told[1:]:
                part.append("changed")
            self.assertEqual(read_machine(text), machine)

    def test_firsts_and_lasts_are_lists_of_their_own(self):
        told = read_machine("rooms 2\nfirst 0\nlast 0")
        told[1].append(1)
        self.assertEqual(told[2], [0])

    def test_called_by_name(self):
        machine = copy.deepcopy(TEXTS["rooms 1\nfirst\nlast"])
        self.assertEqual(read_machine(text=shown_machine(machine=machine)), machine)


class Faults(Case):

    def no_text(self, text, row):
        self.refused(NoText, {"row": row}, read_machine, text)

    def looked_at(self, text):
        """The reading of the text is held against the one by an expression."""
        if writes_a_machine(text):
            machine = read_machine(text)
            self.assertIsNone(look_at(machine))
            self.assertEqual(shown_machine(machine), text)
        else:
            self.no_text(text, fault_of(text))

    def test_what_is_no_text(self):
        for thing in oddities() + [["rooms 1", "first", "last"], b"rooms 1\nfirst\nlast", (1, [], [], [])]:
            if not isinstance(thing, str):
                self.no_text(thing, 0)

    def test_first_rows(self):
        for row in ("", "rooms", "rooms ", "rooms 0", "rooms 13", "rooms 01", "rooms 1 ", " rooms 1", "rooms  1",
                    "rooms 1 2", "Rooms 1", "rooms -1", "rooms +1", "rooms a", "rooms 1.0", "rooms\t1", "room 1",
                    "rooms 1_0", "rooms 99999999999999999999", "rooms 1\r", "first", "1", "rooms " + "1" * 9000):
            self.no_text(row, 0)
            self.no_text(row + "\nfirst\nlast", 0)

    def test_cut_short_by_rows(self):
        for many in range(1, 13):
            self.no_text(f"rooms {many}", 1)
            self.no_text(f"rooms {many}\nfirst", 2)
            self.no_text(f"rooms {many}\nfirst {many - 1}", 2)
            self.assertEqual(read_machine(f"rooms {many}\nfirst\nlast {many - 1}"), (many, [], [many - 1], []))

    def test_empty_rows(self):
        self.no_text("", 0)
        self.no_text("\n", 0)
        self.no_text("rooms 1\n", 1)
        self.no_text("rooms 1\nfirst\n", 2)
        self.no_text("rooms 1\nfirst\nlast\n", 3)
        self.no_text("rooms 1\nfirst\nlast\n0 a 0\n", 4)
        self.no_text("rooms 1\nfirst\nlast\n\n0 a 0", 3)
        self.no_text("rooms 1\n\nfirst\nlast", 1)
        self.no_text("\nrooms 1\nfirst\nlast", 0)

    def test_firsts_and_lasts(self):
        for tail in (" ", " 0 ", "  0", " 3", " 00", " 01", " 0 0", " 1 0", " 2 1", " 0 2 1", " 0 1 2 3", " a", " 0,1",
                     "\t0", " -1", " 0 1 1", "s", "0", " 0\t1", " 10", " +1"):
            self.no_text(f"rooms 3\nfirst{tail}\nlast", 1)
            self.no_text(f"rooms 3\nfirst{tail}", 1)
            self.no_text(f"rooms 3\nfirst\nlast{tail}", 2)
            self.no_text(f"rooms 3\nfirst\nlast{tail}\nx", 2)
        self.no_text("rooms 3\nlast\nfirst", 1)
        self.no_text("rooms 3\nfirst\nfirst", 2)
        self.no_text("rooms 3\n0 a 1", 1)
        self.assertEqual(read_machine("rooms 3\nfirst 0 1 2\nlast 0 2"), (3, [0, 1, 2], [0, 2], []))

    def test_steps(self):
        for row in ("0", "0 a", "0 a ", "0 a 3", "3 a 0", "0 a 01", "00 a 1", "0 aa 1", "0 A 1", "0  1", "0  a 1",
                    "0 a  1", " 0 a 1", "0 a 1 ", "0 a 1 2", "0a1", "a 0 1", "0 0 1", "0 _ 1", "first 0", "0 a -1",
                    "0\ta\t1", "", " ", "0 a 12", "0 { 1", "0 ` 1", "0 a b"):
            self.no_text(f"{HEAD}\n{row}", 3)
            self.no_text(f"{HEAD}\n2 b 2\n{row}\n0 a 1", 4)

    def test_steps_that_stood_ahead(self):
        self.no_text(HEAD + "\n0 a 1\n0 a 1", 4)
        self.no_text(HEAD + "\n0 a 1\n1 a 0\n0 b 1\n1 a 0\nx", 6)
        self.assertEqual(len(read_machine(HEAD + "\n0 a 1\n1 a 0\n0 b 1\n0 a 0")[3]), 4)

    def test_200_steps_and_one_more(self):
        text = shown_machine(crowded())
        self.assertEqual(read_machine(text), crowded())
        self.no_text(text + "\n0 z 0", 203)
        self.no_text(text + "\n0 z 0\nx", 203)
        self.no_text(text + "\n", 203)
        self.no_text(text.replace("\n", "\nx", 4) + "\n0 z 0", 1)
        self.no_text(text[:-1] + "x\n0 z 0", 202)

    def test_texts_cut_short(self):
        for text in TEXTS:
            for length in range(len(text)):
                self.looked_at(text[:length])
                self.looked_at(text[length:])

    def test_a_sign_left_out_put_in_or_exchanged(self):
        for text in TEXTS:
            for at in range(len(text) + 1):
                self.looked_at(text[:at] + text[at + 1:])
                for sign in SIGNS:
                    self.looked_at(text[:at] + sign + text[at:])
                    self.looked_at(text[:at] + sign + text[at + 1:])

    def test_rows_exchanged_or_twice(self):
        for text in TEXTS:
            rows = text.split("\n")
            for at in range(len(rows)):
                self.looked_at("\n".join(rows[:at] + rows[at + 1:]))
                self.looked_at("\n".join(rows[:at + 1] + rows[at:]))
                self.looked_at("\n".join(rows[at:] + rows[:at]))
