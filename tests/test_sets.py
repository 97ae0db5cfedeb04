"""0.4 and 7.1: the sets of rooms that words lead to."""

import copy

from tests.helper import Case, crowded, kept, machines, no_machines, no_numbers, oddities, words
from tests.test_ways import BOTH, WHOLE
from triesgrow.errors import NoMachine, NoNumber, TooMany
from triesgrow.reader import Reader
from triesgrow.roomtexts import rooms_text
from triesgrow.sets import sets_of
from triesgrow.ways import reached, ways

# All sets of twelve rooms are come to: they are turned, and the room 0 is left out.
ALL = (12, list(range(12)), [0], [(room, "a", (room + 1) % 12) for room in range(12)]
       + [(room, "b", room) for room in range(1, 12)])
# Read are the words whose last sign but nine is an a: 1024 sets.
NINTH = (11, [0], [10], [(0, "a", 0), (0, "b", 0), (0, "a", 1)]
         + [(room, sign, room + 1) for sign in "ba" for room in range(1, 10)])
# Machines of 400 and of 401 sets.
WITH_400 = (10, [0], [1], [
    (0, "a", 4), (0, "b", 8), (1, "a", 5), (1, "b", 6), (2, "a", 1), (2, "b", 6), (2, "b", 7), (3, "a", 9),
    (3, "b", 2), (4, "a", 2), (4, "b", 7), (5, "a", 6), (5, "b", 2), (6, "a", 3), (6, "b", 1), (6, "b", 7),
    (7, "a", 4), (7, "b", 8), (8, "a", 7), (8, "b", 5), (9, "a", 8), (9, "b", 9)])
WITH_401 = (10, [0], [1], [
    (0, "a", 8), (0, "b", 8), (1, "a", 6), (1, "b", 3), (2, "a", 5), (2, "a", 7), (2, "b", 5), (3, "a", 1),
    (3, "b", 6), (4, "a", 9), (4, "b", 2), (5, "a", 3), (5, "b", 1), (6, "a", 9), (6, "b", 8), (7, "a", 0),
    (7, "b", 4), (8, "a", 1), (8, "b", 7), (9, "a", 4), (9, "b", 9)])
SIZES = [
    ((1, [], [], []), 1), ((1, [0], [0], []), 1), ((1, [0], [0], [(0, "a", 0)]), 1), (BOTH, 1), (NINTH, 1024),
    (ALL, 4096), (WITH_400, 400), (WITH_401, 401), ((2, [0], [1], [(0, "a", 1)]), 3),
]


def signs_in(machine):
    return sorted({step[1] for step in machine[3]})


def set_by(machine, word):
    """The set that the word leads to, found by going from room to room."""
    rooms = set(machine[1])
    for sign in word:
        rooms = {other for room, by, other in machine[3] if by == sign and room in rooms}
    return "".join("1" if room in rooms else "0" for room in range(machine[0]))


def sets_by_words(machine, most):
    """The sets in the order in which all words of at most so many signs first lead to them, each with that word."""
    told = {}
    for word in words("".join(signs_in(machine)), most):
        told.setdefault(set_by(machine, word), word)
    return told


class Listed(Case):

    def test_the_sets_that_all_words_lead_to(self):
        seen = 0
        for machine in machines():
            signs = signs_in(machine)
            listed = sets_by_words(machine, 7 if len(signs) < 3 else 4)
            numbers = {text: number for number, text in enumerate(listed)}
            wanted = []
            for text, word in listed.items():
                wanted.append((text, [(sign, numbers.get(set_by(machine, word + sign))) for sign in signs]))
            if all(number is not None for _, nexts in wanted for _, number in nexts):
                seen += 1
                self.same_kinds(kept(sets_of, machine), wanted)
        self.assertGreater(seen, len(machines()) - 3)

    def test_the_set_that_each_word_leads_to(self):
        for machine in machines() + [NINTH, WITH_400]:
            sets = sets_of(machine, 4096)
            for word in words("".join(signs_in(machine)), 5 if len(signs_in(machine)) < 3 else 3):
                number = 0
                for sign in word:
                    number = dict(sets[number][1])[sign]
                text = sets[number][0]
                self.assertEqual(text, rooms_text(machine, reached(machine, word)))
                self.assertEqual(any(text[room] == "1" for room in machine[2]), ways(machine, word) > 0)
                reader = Reader(machine)
                reader.take(word)
                self.assertEqual(text, rooms_text(machine, reader.reached()))

    def test_each_set_once_and_in_the_order_in_which_they_come(self):
        for machine in machines() + [NINTH, ALL, WITH_400]:
            sets = sets_of(machine, 4096)
            self.assertEqual(len({text for text, _ in sets}), len(sets))
            come = [0]
            for _, nexts in sets:
                self.assertEqual([sign for sign, _ in nexts], signs_in(machine))
                come.extend(number for _, number in nexts)
            self.assertEqual(list(dict.fromkeys(come)), list(range(len(sets))))


class Told(Case):

    def test_sets(self):
        machine = (3, [0, 1], [2], [(1, "b", 2), (0, "a", 1), (2, "b", 0), (0, "a", 0)])
        self.same_kinds(sets_of(machine), [
            ("110", [("a", 0), ("b", 1)]),
            ("001", [("a", 2), ("b", 3)]),
            ("000", [("a", 2), ("b", 2)]),
            ("100", [("a", 0), ("b", 2)]),
        ])

    def test_signs_as_letters_go(self):
        machine = (2, [0], [1], [(0, "z", 0), (0, "b", 1), (1, "m", 0)])
        self.same_kinds(sets_of(machine), [
            ("10", [("b", 1), ("m", 2), ("z", 0)]),
            ("01", [("b", 2), ("m", 0), ("z", 2)]),
            ("00", [("b", 2), ("m", 2), ("z", 2)]),
        ])

    def test_without_firsts_lasts_or_steps(self):
        self.same_kinds(sets_of((2, [], [0, 1], [(0, "a", 1)])), [("00", [("a", 0)])])
        self.same_kinds(sets_of((2, [0], [], [(0, "a", 1)])), [("10", [("a", 1)]), ("01", [("a", 2)]),
                                                             ("00", [("a", 2)])])
        self.same_kinds(sets_of((2, [0, 1], [0], [])), [("11", [])])
        self.same_kinds(sets_of((1, [], [], [])), [("0", [])])

    def test_sets_hang_neither_on_lasts_nor_on_the_order_of_steps(self):
        for machine in machines():
            many, firsts, lasts, steps = machine
            self.assertEqual(sets_of((many, firsts, [], steps[::-1])), sets_of(machine))

    def test_as_many_as_told(self):
        for machine, many in SIZES:
            self.assertEqual(len(sets_of(machine, 4096)), many)

    def test_called_by_name(self):
        self.assertEqual(sets_of(machine=BOTH, most=1), [("11", [("a", 0)])])
        self.assertEqual(sets_of(most=5, machine=BOTH), [("11", [("a", 0)])])


class Refused(Case):

    def test_more_sets_than_the_most(self):
        for machine, many in SIZES + [(machine, len(sets_of(machine, 4096))) for machine in machines()]:
            sets = sets_of(machine, 4096)
            self.assertEqual(sets_of(machine, many), sets)
            for most in {1, 2, many // 2, many - 1}:
                if 1 <= most < many:
                    self.refused(TooMany, {"many": most}, sets_of, machine, most)

    def test_the_default_most_is_400(self):
        self.assertEqual(sets_of(WITH_400), sets_of(WITH_400, 400))
        self.refused(TooMany, {"many": 400}, sets_of, WITH_401)
        self.refused(TooMany, {"many": 400}, sets_of, NINTH)
        self.refused(TooMany, {"many": 400}, sets_of, ALL)

    def test_what_is_no_most(self):
        for thing in no_numbers(1, 4096):
            self.refused(NoNumber, {"number": thing}, sets_of, WHOLE, thing)
            self.refused(NoNumber, {"number": thing}, sets_of, BOTH, most=thing)

    def test_what_is_no_machine_ahead_of_the_most(self):
        for thing, part, number in no_machines() + [(thing, "machine", None) for thing in oddities()]:
            self.refused(NoMachine, {"part": part, "number": number}, sets_of, thing)
            self.refused(NoMachine, {"part": part, "number": number}, sets_of, thing, 0)


class Own(Case):

    def test_told_lists_are_the_askers_own(self):
        for machine in (WHOLE, BOTH, crowded()):
            told = sets_of(machine)
            before = copy.deepcopy(told)
            for _, nexts in told:
                nexts.append(("q", 7))
                nexts[0] = None
            told.append("changed")
            self.assertEqual(sets_of(machine), before)

    def test_lists_within_are_lists_of_their_own(self):
        told = sets_of(WHOLE)
        self.assertEqual(len({id(nexts) for _, nexts in told}), len(told))
        told = sets_of((1, [0], [0], []))
        told[0][1].append(1)
        self.assertEqual(sets_of((1, [0], [0], [])), [("1", [])])
