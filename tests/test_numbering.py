"""3.3: the order of ways, the way with a number, the number of a way."""

import copy

from tests.helper import (
    Case, crowded, kept, listed_beginnings, listed_ways, machines, no_machines, oddities, words,
)
from tests.test_ways import BOTH, NO_WORDS, WHOLE
from triesgrow.errors import NoMachine, NoNumber, NoWay, NoWord
from triesgrow.machines import beginnings
from triesgrow.numbering import number_of, way_at
from triesgrow.ways import ways


def fault_of(machine, word, way):
    """Where the list stops being a way, found among all beginnings; None where it doesn't."""
    for at in range(len(way)):
        if at > len(word):
            return at
        listed = listed_ways(machine, word) if at == len(word) else listed_beginnings(machine, word[:at])
        if repr(way[:at + 1]) not in [repr(each) for each in listed]:
            return at
    return None if len(way) > len(word) else len(way)


class Order(Case):

    def test_all_ways_in_order(self):
        for machine in machines():
            for word in words("abz", 2 if machine == crowded() else 4):
                for number, way in enumerate(listed_ways(machine, word)):
                    self.same_kinds(kept(way_at, machine, word, number), way)
                    self.same_kinds(kept(number_of, machine, word, way), number)

    def test_beginnings_in_order(self):
        machine = beginnings(WHOLE)
        for word in words("ab", 3):
            for number, way in enumerate(listed_beginnings(WHOLE, word)):
                self.assertEqual(way_at(machine, word, number), way)
                self.assertEqual(number_of(machine, word, way), number)

    def test_steps_that_are_not_sorted(self):
        self.assertEqual([way_at(BOTH, "a", number) for number in range(4)], [[0, 1], [0, 0], [1, 0], [1, 1]])
        self.assertEqual([number_of(BOTH, "a", way) for way in ([0, 1], [0, 0], [1, 0], [1, 1])], [0, 1, 2, 3])
        sorted_steps = BOTH[:3] + (sorted(BOTH[3]),)
        self.assertEqual([way_at(sorted_steps, "a", number) for number in range(4)], [[0, 0], [0, 1], [1, 0], [1, 1]])

    def test_the_word_without_signs(self):
        machine = (4, [0, 2, 3], [0, 1, 3], [])
        self.same_kinds(way_at(machine, "", 0), [0])
        self.same_kinds(way_at(machine, "", 1), [3])
        self.same_kinds(number_of(machine, "", [3]), 1)
        self.refused(NoNumber, {"number": 2}, way_at, machine, "", 2)
        self.refused(NoWay, {"at": 0}, number_of, machine, "", [2])
        self.refused(NoWay, {"at": 0}, number_of, machine, "", [1])
        self.refused(NoWay, {"at": 0}, number_of, machine, "", [])
        self.refused(NoWay, {"at": 1}, number_of, machine, "", [0, 0])

    def test_words_of_400_signs(self):
        word = "a" * 400
        self.same_kinds(way_at(BOTH, word, 0), [0, 1] * 200 + [0])
        self.same_kinds(way_at(BOTH, word, 2 ** 401 - 1), [1] * 401)
        self.same_kinds(way_at(BOTH, word, 2 ** 400), [1] + [0, 1] * 200)
        for number in (0, 1, 2 ** 100, 2 ** 400 - 1, 2 ** 400, 3 ** 250, 2 ** 401 - 2, 2 ** 401 - 1):
            way = way_at(BOTH, word, number)
            self.assertEqual(len(way), 401)
            self.same_kinds(number_of(BOTH, word, way), number)
        self.refused(NoNumber, {"number": 2 ** 401}, way_at, BOTH, word, 2 ** 401)
        self.refused(NoWay, {"at": 401}, number_of, BOTH, word, [0] * 402)
        self.refused(NoWay, {"at": 400}, number_of, BOTH, word, [0] * 400)
        self.refused(NoWay, {"at": 399}, number_of, BOTH, word, [0] * 399 + [2, 0])

    def test_many_rooms_and_steps(self):
        word = "ab" * 200
        most = ways(crowded(), word)
        for number in (0, 1, most // 3, most // 2, most - 1):
            self.assertEqual(number_of(crowded(), word, way_at(crowded(), word, number)), number)
        self.refused(NoNumber, {"number": most}, way_at, crowded(), word, most)

    def test_called_by_name(self):
        self.assertEqual(way_at(machine=BOTH, text="a", number=2), [1, 0])
        self.assertEqual(number_of(machine=BOTH, text="a", way=[1, 0]), 2)


class Numbers(Case):

    def test_what_is_no_number_of_a_way(self):
        others = [thing for thing in oddities() if type(thing) is not int]
        for number in others + [4, 5, -1, -2, 10 ** 60, True, False, "0", 0.0, [0], None]:
            self.refused(NoNumber, {"number": number}, way_at, BOTH, "a", number)

    def test_where_there_are_no_ways(self):
        for machine in ((1, [], [0], []), (1, [0], [], []), (2, [0], [1], [(1, "a", 0)])):
            for word in ("", "a"):
                for number in (0, -1, 1):
                    self.refused(NoNumber, {"number": number}, way_at, machine, word, number)

    def test_one_beyond(self):
        for machine in machines():
            for word in words("ab", 2):
                many = len(listed_ways(machine, word))
                self.refused(NoNumber, {"number": many}, way_at, machine, word, many)
                self.refused(NoNumber, {"number": -1}, way_at, machine, word, -1)
                self.refused(NoNumber, {"number": -many - 1}, way_at, machine, word, -many - 1)


class NoWays(Case):

    def test_what_is_no_list(self):
        for thing in oddities() + [(0, 1), "01", {0: 0, 1: 1}, range(2), {0, 1}]:
            if not isinstance(thing, list):
                self.refused(NoWay, {"at": None}, number_of, BOTH, "a", thing)

    def test_where_some_lack(self):
        self.refused(NoWay, {"at": 0}, number_of, BOTH, "ab", [])
        self.refused(NoWay, {"at": 1}, number_of, BOTH, "aa", [0])
        self.refused(NoWay, {"at": 2}, number_of, BOTH, "aa", [0, 1])
        self.refused(NoWay, {"at": 0}, number_of, (1, [], [], []), "", [])

    def test_where_a_thing_can_not_stand(self):
        machine = (3, [0, 1], [2], [(0, "a", 1), (1, "a", 2), (0, "a", 0), (1, "b", 0)])
        faults = [
            ([2, 0, 0], 0), ([3], 0), ([0, 2, 2], 1), ([0, 1, 1], 2), ([0, 1, 0], 2), ([0, 0, 0], 2), ([0, 0, 2], 2),
            ([0, 1, 2, 2], 3), ([0, 1, 2, None], 3), ([0, 0], 2), ([1, 2], 2), ([1, 2, 2], 2), ([1, 0, 0], 1),
            ([0, 1, 2, 0, 0, 0], 3),
        ]
        for way, at in faults:
            self.assertEqual(fault_of(machine, "aa", way), at)
            self.refused(NoWay, {"at": at}, number_of, machine, "aa", way)
        self.assertEqual(number_of(machine, "aa", [0, 1, 2]), 0)

    def test_a_room_from_which_no_way_goes_on_can_stand(self):
        machine = (3, [0, 1], [2], [(0, "a", 1), (0, "b", 2)])
        self.refused(NoWay, {"at": 2}, number_of, machine, "ab", [0, 1, 2])
        self.refused(NoWay, {"at": 1}, number_of, machine, "ab", [1, 1, 1])
        self.refused(NoWay, {"at": 2}, number_of, machine, "ab", [0, 1])

    def test_the_end_must_be_a_last(self):
        machine = (2, [0], [1], [(0, "a", 0), (0, "a", 1)])
        self.refused(NoWay, {"at": 1}, number_of, machine, "a", [0, 0])
        self.refused(NoWay, {"at": 2}, number_of, machine, "aa", [0, 0, 0])
        self.refused(NoWay, {"at": 1}, number_of, machine, "a", [0, 0, 0])
        self.assertEqual(number_of(machine, "aa", [0, 0, 1]), 0)

    def test_things_of_every_kind_at_each_place(self):
        for way in listed_ways(BOTH, "aa"):
            for at in range(3):
                for thing in oddities() + [2, -1, 0.0, 1.0, "0", "1", [0]]:
                    if type(thing) is not int or thing not in (0, 1):
                        put = way[:at] + [thing] + way[at + 1:]
                        self.refused(NoWay, {"at": at}, number_of, BOTH, "aa", put)
                    self.refused(NoWay, {"at": 3}, number_of, BOTH, "aa", way + [thing])

    def test_truths_are_no_rooms(self):
        self.refused(NoWay, {"at": 0}, number_of, BOTH, "a", [True, 1])
        self.refused(NoWay, {"at": 1}, number_of, BOTH, "a", [0, True])
        self.refused(NoWay, {"at": 1}, number_of, BOTH, "a", [0, False])

    def test_all_short_lists(self):
        for machine in machines():
            if machine[0] > 3:
                continue
            lists = [[]]
            for way in lists:
                for word in ("", "a", "ab", "aa"):
                    at = fault_of(machine, word, way)
                    if at is None:
                        self.assertEqual(number_of(machine, word, way), listed_ways(machine, word).index(way))
                    else:
                        self.refused(NoWay, {"at": at}, number_of, machine, word, way)
                if len(way) < 4:
                    lists.extend(way + [room] for room in range(machine[0] + 1))


class Refused(Case):

    def test_what_is_no_machine_ahead_of_all_else(self):
        for thing, part, number in no_machines() + [(thing, "machine", None) for thing in oddities()]:
            values = {"part": part, "number": number}
            for text in ("a", "A"):
                self.refused(NoMachine, values, way_at, thing, text, None)
                self.refused(NoMachine, values, number_of, thing, text, None)

    def test_what_is_no_word_ahead_of_numbers_and_ways(self):
        for thing, at in NO_WORDS + [(thing, None) for thing in oddities() if not isinstance(thing, str)]:
            self.refused(NoWord, {"at": at}, way_at, BOTH, thing, 0)
            self.refused(NoWord, {"at": at}, way_at, BOTH, thing, -1)
            self.refused(NoWord, {"at": at}, number_of, BOTH, thing, [0])
            self.refused(NoWord, {"at": at}, number_of, BOTH, thing, None)

    def test_told_lists_are_the_askers_own(self):
        told = way_at(BOTH, "aa", 5)
        before = list(told)
        told.append(0)
        told[0] = 9
        self.assertEqual(way_at(BOTH, "aa", 5), before)
        machine = copy.deepcopy((2, [1], [1], []))
        told = way_at(machine, "", 0)
        told.append(0)
        self.assertEqual(machine, (2, [1], [1], []))

    def test_what_was_handed_in_stays(self):
        for way in ([0, 9], [0], [None], [0, 1, 1]):
            before = list(way)
            self.refused(NoWay, {"at": fault_of(BOTH, "a", way)}, number_of, BOTH, "a", way)
            self.assertEqual(way, before)
