"""0.4, 3.1 and 3.2: ways and beginnings are counted and weighed."""

import copy

from tests.helper import (
    Case, crowded, kept, listed_beginnings, listed_ways, machines, no_machines, oddities, words,
)
from triesgrow.errors import NoMachine, NoRoom, NoWord
from triesgrow.machines import beginnings, turned
from triesgrow.ways import beginnings_by, counts, reached, ways, weighed

WHOLE = (3, [0, 1], [1, 2], [(2, "b", 1), (0, "a", 2), (0, "a", 0), (1, "a", 2), (0, "b", 1), (2, "a", 0)])
# Each word of n signs a has 2 ** (n + 1) ways.
BOTH = (2, [0, 1], [0, 1], [(1, "a", 0), (0, "a", 1), (1, "a", 1), (0, "a", 0)])
# Things that are no words, each with the value of its refusal.
NO_WORDS = [
    ("A", 0), ("aA", 1), ("ab ", 2), ("a\n", 1), ("_", 0), ("a0", 1), ("{", 0), ("`", 0), ("a" * 401, 400),
    ("a" * 400 + "A", 400), ("a" * 399 + "A", 399), ("a" * 399 + "Aa", 399), ("a" * 20000, 400),
    ("A" + "a" * 500, 0), ("aaaa-" + "a" * 500, 4), ("a" * 401 + "A", 400), ("A" * 402, 0),
    (None, None), (True, None), (0, None), (["a"], None), (("a",), None), ({"a": 1}, None), (b"a", None), ([], None),
]


def word_of(machine):
    return words("abz", 2 if machine == crowded() else 4)


def worth_of(room, sign, other):
    return (room + 1) * (3 if sign == "a" else -2) - 5 * other * other


def weighed_one_by_one(machine, word, worth):
    total = 0
    for way in listed_ways(machine, word):
        product = 1
        for room, sign, other in zip(way, word, way[1:]):
            product *= worth(room, sign, other)
        total += product
    return total


CALLS = [ways, counts, beginnings_by, reached, lambda machine, text: weighed(machine, text, worth_of)]


class Listed(Case):
    """All that is counted is held against the ways, gone through one by one."""

    def test_ways(self):
        for machine in machines():
            for word in word_of(machine):
                self.same_kinds(kept(ways, machine, word), len(listed_ways(machine, word)))

    def test_counts_and_reached(self):
        for machine in machines():
            for word in word_of(machine):
                ends = [way[-1] for way in listed_beginnings(machine, word)]
                self.same_kinds(kept(counts, machine, word), [ends.count(room) for room in range(machine[0])])
                self.same_kinds(kept(reached, machine, word), sorted(set(ends)))

    def test_beginnings(self):
        for machine in machines():
            for word in word_of(machine):
                listed = [len(listed_beginnings(machine, word[:i])) for i in range(len(word) + 1)]
                self.same_kinds(kept(beginnings_by, machine, word), listed)

    def test_with_a_first_or_a_last(self):
        for machine in machines():
            many, firsts, lasts, steps = machine
            some = range(many) if many < 12 else (0, 5, 11)
            for word in word_of(machine)[:40]:
                for room in some:
                    self.same_kinds(ways(machine, word, room), len(listed_ways((many, [room], lasts, steps), word)))
                    told = ways(machine, word, None, room)
                    self.same_kinds(told, len(listed_ways((many, firsts, [room], steps), word)))
                    for last in some:
                        told = ways(machine, word, first=room, last=last)
                        self.same_kinds(told, len(listed_ways((many, [room], [last], steps), word)))

    def test_weighed(self):
        for machine in machines():
            for word in word_of(machine):
                self.same_kinds(kept(weighed, machine, word, worth_of), weighed_one_by_one(machine, word, worth_of))

    def test_the_numbers_agree(self):
        for machine in machines():
            firsts, lasts = machine[1:3]
            for word in word_of(machine):
                many = ways(machine, word)
                ends = counts(machine, word)
                self.assertEqual(sum(ends), beginnings_by(machine, word)[-1])
                self.assertEqual(ways(beginnings(machine), word), sum(ends))
                self.assertEqual(sum(ends[room] for room in lasts), many)
                self.assertEqual(sum(ways(machine, word, first=room) for room in firsts), many)
                self.assertEqual(sum(ways(machine, word, last=room) for room in lasts), many)
                self.assertEqual(ways(turned(machine), word[::-1]), many)
                self.assertEqual(weighed(machine, word, lambda room, sign, other: 1), many)
                self.assertEqual([room for room in range(machine[0]) if ends[room]], reached(machine, word))


class Told(Case):

    def test_the_word_without_signs(self):
        self.assertEqual(ways(WHOLE, ""), 1)
        self.assertEqual(counts(WHOLE, ""), [1, 1, 0])
        self.assertEqual(beginnings_by(WHOLE, ""), [2])
        self.assertEqual(reached(WHOLE, ""), [0, 1])
        self.assertEqual(weighed(WHOLE, "", worth_of), 1)
        self.assertEqual(weighed(BOTH, "", worth_of), 2)
        self.assertEqual((ways(WHOLE, "", first=2), ways(WHOLE, "", last=0), ways(WHOLE, "", 2, 0)), (1, 1, 0))

    def test_a_word_with_signs(self):
        self.assertEqual(ways(WHOLE, "a"), 2)
        self.assertEqual(counts(WHOLE, "a"), [1, 0, 2])
        self.assertEqual(beginnings_by(WHOLE, "aab"), [2, 3, 4, 4])
        self.assertEqual(counts(WHOLE, "aa"), [3, 0, 1])
        self.assertEqual(counts(WHOLE, "aab"), [0, 4, 0])
        self.assertEqual(reached(WHOLE, "aab"), [1])

    def test_signs_that_no_step_has(self):
        self.assertEqual(ways(WHOLE, "z"), 0)
        self.assertEqual(counts(WHOLE, "az"), [0, 0, 0])
        self.assertEqual(beginnings_by(WHOLE, "azb"), [2, 3, 0, 0])
        self.assertEqual(reached(WHOLE, "z"), [])
        self.assertEqual(weighed(WHOLE, "za", worth_of), 0)

    def test_without_firsts_lasts_or_steps(self):
        self.assertEqual(ways((2, [], [0, 1], [(0, "a", 1)]), "a"), 0)
        self.assertEqual(ways((2, [], [0, 1], [(0, "a", 1)]), "a", first=0), 1)
        self.assertEqual(ways((2, [0], [], [(0, "a", 1)]), "a"), 0)
        self.assertEqual(ways((2, [0], [], [(0, "a", 1)]), "a", last=1), 1)
        self.assertEqual(ways((2, [], [], [(0, "a", 1)]), "a", first=0, last=1), 1)
        self.assertEqual(beginnings_by((2, [0, 1], [], []), "ab"), [2, 0, 0])
        self.assertEqual(counts((2, [], [], []), ""), [0, 0])

    def test_a_first_or_a_last_left_out_and_none(self):
        self.assertEqual(ways(WHOLE, "ab"), ways(WHOLE, "ab", None, None))
        self.assertEqual(ways(WHOLE, "ab"), ways(WHOLE, "ab", first=None, last=None))
        self.assertEqual(ways(WHOLE, "a", last=2), ways(WHOLE, "a", None, 2))
        self.assertEqual(ways(WHOLE, "a", first=0), ways(WHOLE, "a", 0, None))

    def test_room_0_as_first_or_last_is_a_room(self):
        machine = (2, [1], [1], [(0, "a", 0), (1, "a", 1), (1, "a", 0), (0, "b", 1)])
        self.assertEqual(ways(machine, "a"), 1)
        self.assertEqual(ways(machine, "b", first=0), 1)
        self.assertEqual(ways(machine, "a", first=0), 0)
        self.assertEqual(ways(machine, "aa", last=0), 2)
        self.assertEqual(ways(machine, "aa", first=0, last=0), 1)

    def test_words_of_400_signs(self):
        word = "a" * 400
        self.same_kinds(ways(BOTH, word), 2 ** 401)
        self.same_kinds(ways(BOTH, word, first=1), 2 ** 400)
        self.same_kinds(ways(BOTH, word, last=0), 2 ** 400)
        self.same_kinds(ways(BOTH, word, 0, 1), 2 ** 399)
        self.same_kinds(counts(BOTH, word), [2 ** 400, 2 ** 400])
        self.same_kinds(beginnings_by(BOTH, word), [2 ** (i + 1) for i in range(401)])
        self.same_kinds(reached(BOTH, word), [0, 1])
        self.same_kinds(weighed(BOTH, word, lambda room, sign, other: 3), 2 * 6 ** 400)
        self.same_kinds(weighed(BOTH, word, lambda room, sign, other: [2, 3][other]), 2 * 5 ** 400)
        self.same_kinds(weighed(BOTH, word, lambda room, sign, other: [2, 3][room]), 2 * 5 ** 400)
        self.same_kinds(weighed(BOTH, word, lambda room, sign, other: 1 - 2 * other), 0)
        self.same_kinds(weighed(BOTH, word, lambda room, sign, other: 0), 0)

    def test_400_signs_of_many_rooms(self):
        self.assertEqual(sum(counts(crowded(), "ab" * 200)), beginnings_by(crowded(), "ab" * 200)[-1])
        self.assertGreater(ways(crowded(), "ab" * 200), 8 ** 399)

    def test_what_a_step_is_worth_is_asked_in_order(self):
        machine = (3, [0], [2], [(1, "b", 2), (0, "a", 1)])
        self.assertEqual(weighed(machine, "ab", lambda room, sign, other: {(0, "a", 1): 7, (1, "b", 2): -11}[
            (room, sign, other)]), -77)

    def test_called_by_name(self):
        self.assertEqual(ways(machine=WHOLE, text="a", first=1, last=2), 1)
        self.assertEqual(counts(machine=WHOLE, text="a"), [1, 0, 2])
        self.assertEqual(beginnings_by(machine=WHOLE, text="a"), [2, 3])
        self.assertEqual(reached(machine=WHOLE, text="a"), [0, 2])
        self.assertEqual(weighed(machine=WHOLE, text="a", worth=lambda room, sign, other: 10 + room), 21)


class Refused(Case):

    def test_what_is_no_machine_ahead_of_all_else(self):
        for thing, part, number in no_machines() + [(thing, "machine", None) for thing in oddities()]:
            for call in CALLS:
                for text in ("a", "A", None):
                    self.refused(NoMachine, {"part": part, "number": number}, call, thing, text)
            self.refused(NoMachine, {"part": part, "number": number}, ways, thing, "A", 9, True)

    def test_what_is_no_word(self):
        things = NO_WORDS + [(thing, None) for thing in oddities() if not isinstance(thing, str)]
        for thing, at in things:
            for call in CALLS:
                self.refused(NoWord, {"at": at}, call, WHOLE, thing)

    def test_what_is_no_word_ahead_of_rooms(self):
        for thing, at in NO_WORDS:
            self.refused(NoWord, {"at": at}, ways, WHOLE, thing, 3)
            self.refused(NoWord, {"at": at}, ways, WHOLE, thing, None, "0")
            self.refused(NoWord, {"at": at}, ways, WHOLE, thing, first=True, last=False)

    def test_what_is_no_room(self):
        others = [thing for thing in oddities() if thing is not None and (type(thing) is not int or not 0 <= thing < 3)]
        for room in others + [3, -1, 12, "0", "1", 1.0, True, False, [0], (0,), {}]:
            self.refused(NoRoom, {"room": room}, ways, WHOLE, "a", room)
            self.refused(NoRoom, {"room": room}, ways, WHOLE, "a", first=room)
            self.refused(NoRoom, {"room": room}, ways, WHOLE, "", last=room)
            self.refused(NoRoom, {"room": room}, ways, WHOLE, "z", 0, room)
            self.refused(NoRoom, {"room": room}, ways, WHOLE, "a", room, 99)
            self.refused(NoRoom, {"room": 99}, ways, WHOLE, "a", 99, room)
        self.refused(NoRoom, {"room": 12}, ways, crowded(), "a", last=12)
        self.refused(NoRoom, {"room": 1}, ways, (1, [], [], []), "", 1)


class Own(Case):

    def test_told_lists_are_the_askers_own(self):
        for call in (counts, beginnings_by, reached):
            for word in ("", "a", "ab"):
                told = call(WHOLE, word)
                before = copy.deepcopy(told)
                told.append(5)
                told[0] = 77
                self.assertEqual(call(WHOLE, word), before)

    def test_what_was_handed_in_may_be_changed(self):
        for call in (counts, beginnings_by, reached):
            machine = copy.deepcopy(WHOLE)
            told = call(machine, "")
            before = copy.deepcopy(told)
            for part in machine[1:]:
                part.clear()
            self.assertEqual(told, before)

    def test_a_refusal_changes_nothing(self):
        machine = copy.deepcopy(WHOLE)
        self.refused(NoWord, {"at": 1}, counts, machine, "aA")
        self.refused(NoRoom, {"room": 5}, ways, machine, "a", 5)
        self.assertEqual(machine, WHOLE)
        self.assertEqual(ways(machine, "a"), 2)
