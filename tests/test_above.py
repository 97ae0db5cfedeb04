"""0.4, 10.3, 10.4: the told table, and the greatest number of ways."""

import copy
import random
import time

from tests.helper import (BESIDE, INTO, RINGS, Case, chain, crowded, growing, kept, machines, moving, no_machines,
                          no_numbers, oddities, ring, useful_rooms, words)
from tests.test_rounds import THREE, TURNS, drawn, signs_in
from tests.test_sets import ALL
from tests.test_tables import PARTLY, begin_of, by_sign, with_tables
from triesgrow.above import greatest, table_of
from triesgrow.errors import Doubling, Growing, NoMachine, NoNumber, TooMany
from triesgrow.growth import growth, ranks
from triesgrow.machines import called
from triesgrow.pumps import lets_pump
from triesgrow.tables import bound, lets_table
from triesgrow.ways import ways

# Machines of which ways never grow, each with so many vectors.
VECTORS = {
    400: moving("0234578", "0", a="0571.0548", b="1.3862745"),
    401: moving("1378", "0", a="350681670", b="471.83520"),
    2000: moving("0123456789", "0", a="21062867257", b="58954279375"),
    2001: moving("01235689x", "0", a="13846x92507", b="03.67x25489"),
    4000: moving("01346789x", "0", a="y0.73691x452", b="3y56487209x1"),
    4001: moving("012345678y", "0", a="y0.73691x452", b="3y56487209x1"),
}
# Rings of three, four and five rooms side by side, so that their turns come together after sixty signs.
SIDE = (12, [0, 3, 7], [2, 6, 11], ring([0, 1, 2], "a") + ring([3, 4, 5, 6], "a") + ring([7, 8, 9, 10, 11], "a"))
DOUBLES = (2, [0], [0], [(0, "a", 0), (0, "a", 1), (1, "a", 0)])


def never():
    told = [machine for machine, how in growing() if how == ("never",)] + machines() + drawn(89, 90)
    return [machine for machine in told if growth(machine) == ("never",)]


def doubling():
    return [machine for machine in machines() + drawn(97, 40) + [RINGS, DOUBLES]
            if growth(machine) == ("doubles",)]


def first_greatest(machine):
    """What is told by greatest, found from vector to vector, as words come, the shorter ones and first ones ahead."""
    found = {begin_of(machine): ""}
    waiting = list(found)
    for vector in waiting:
        for sign in signs_in(machine):
            after = by_sign(machine, vector, sign)
            if after not in found:
                found[after] = found[vector] + sign
                waiting.append(after)
    most = max(sum(vector[last] for last in machine[2]) for vector in found)
    listed = [word for vector, word in found.items() if sum(vector[last] for last in machine[2]) == most]
    return most, min(listed, key=lambda word: (len(word), word)) if most else None


class Table(Case):

    def test_the_least_parts_as_the_test_closes_them(self):
        powers = set()
        for machine, table in with_tables():
            told = kept(table_of, machine)
            self.same_kinds(told, table)
            self.is_true(lets_table(machine, told))
            powers.add(len(told[1]) - 1)
        self.assertEqual(powers, set(range(12)))

    def test_told(self):
        self.same_kinds(table_of(chain(2)), ([0, 1], [[[1, 0]], [[0, 1]]]))
        self.same_kinds(table_of(PARTLY), ([0, 1, None, None], [[[1, 0, 0, 0]], [[0, 1, 0, 0]]]))
        self.same_kinds(table_of((1, [], [], [])), ([None], [[]]))
        self.same_kinds(table_of((2, [0, 1], [], [(0, "a", 1)])), ([None, None], [[]]))
        self.same_kinds(table_of((2, [0, 1], [0, 1], [])), ([0, 0], [[[1, 1]]]))
        self.same_kinds(table_of((3, [0, 1], [2], [(0, "b", 2), (1, "b", 2), (2, "a", 0)])), (
            [0, 0, 0], [[[0, 0, 2], [1, 1, 0], [2, 0, 0]]]))
        self.same_kinds(table_of(INTO)[0], [0] * 5 + [1] * 7)
        self.assertEqual([len(part) for part in table_of(INTO)[1]], [5, 7])
        self.assertEqual(table_of(chain(12))[1], [[[int(room == at) for room in range(12)]] for at in range(12)])

    def test_sorted(self):
        for machine in [VECTORS[400], THREE, TURNS, SIDE] + never():
            for part in table_of(machine, 4000)[1]:
                self.assertEqual(part, sorted(part))
                self.assertEqual(len({tuple(vector) for vector in part}), len(part))

    def test_so_many_vectors_and_one_more(self):
        for many, machine in VECTORS.items():
            if many <= 4000:
                told = kept(table_of, machine, many)
                self.assertEqual([len(part) for part in told[1]], [many])
                self.is_true(lets_table(machine, told))
            for most in {1, 2, 400, many // 2, many - 1}:
                if most < many:
                    self.refused(TooMany, {"many": most}, table_of, machine, most)
        self.refused(TooMany, {"many": 4000}, table_of, VECTORS[4001], 4000)

    def test_the_most_counts_all_parts_together(self):
        for machine, table in with_tables():
            many = sum(len(part) for part in table[1])
            self.same_kinds(table_of(machine, max(many, 1)), table)
            for most in range(1, min(many, 15)):
                self.refused(TooMany, {"many": most}, table_of, machine, most)
        self.assertEqual(len(table_of(chain(12), 12)[1]), 12)
        self.refused(TooMany, {"many": 11}, table_of, chain(12), 11)
        # The begin alone has a share of each of two ranks.
        self.refused(TooMany, {"many": 1}, table_of, (2, [0, 1], [1], chain(2)[3]), 1)

    def test_left_out_it_is_400(self):
        self.assertEqual(len(table_of(VECTORS[400])[1][0]), 400)
        self.refused(TooMany, {"many": 400}, table_of, VECTORS[401])
        self.refused(TooMany, {"many": 400}, table_of, VECTORS[2000])
        self.refused(TooMany, {"many": 400}, table_of, ALL)

    def test_thousands_of_vectors_in_good_time(self):
        begin = time.monotonic()
        table = table_of(VECTORS[4000], 4000)
        self.is_true(lets_table(VECTORS[4000], table))
        # No other vector stands above the one with the greatest sum.
        table[1][0].remove(max(table[1][0], key=sum))
        self.is_false(lets_table(VECTORS[4000], table))
        self.refused(TooMany, {"many": 4000}, table_of, ALL, 4000)
        self.assertLess(time.monotonic() - begin, 20)

    def test_where_ways_double(self):
        seen = 0
        for machine in doubling():
            seen += 1
            for most in (1, 400, 4000):
                with self.assertRaises(Doubling) as caught:
                    table_of(machine, most)
                self.is_true(lets_pump(machine, caught.exception.pump))
                self.assertTrue(all(room == other for room, other in caught.exception.pump[1]))
        self.assertGreater(seen, 15)

    def test_order_of_refusals(self):
        for thing in no_numbers(1, 4000):
            for machine in (chain(2), DOUBLES, VECTORS[401], (1, [], [], [])):
                self.refused(NoNumber, {"number": thing}, table_of, machine, thing)
                self.refused(NoNumber, {"number": thing}, table_of, machine=machine, most=thing)
        for thing, part, number in no_machines() + [(thing, "machine", None) for thing in oddities()]:
            self.refused(NoMachine, {"part": part, "number": number}, table_of, thing)
            self.refused(NoMachine, {"part": part, "number": number}, table_of, thing, 0)
        # All sets of eleven rooms would be too many vectors, but ways double.
        many, firsts, lasts, steps = ALL
        with self.assertRaises(Doubling):
            table_of((many, firsts, lasts, steps + [(0, "c", 0), (0, "c", 1), (1, "c", 0)]), 1)

    def test_no_word_has_more_ways_than_the_bound(self):
        for machine, _ in with_tables():
            table = table_of(machine)
            for word in words(signs_in(machine), 4 if len(signs_in(machine)) < 3 else 3):
                self.assertLessEqual(ways(machine, word), bound(machine, table, len(word)))

    def test_told_lists_are_the_askers_own(self):
        for machine in (chain(3), SIDE, (1, [], [], [])):
            before = copy.deepcopy(machine)
            told = table_of(machine)
            wanted = copy.deepcopy(told)
            for part in told[1]:
                for vector in part:
                    vector[0] = "changed"
                part.append("changed")
            told[0].append("changed")
            told[1].append("changed")
            self.assertEqual(machine, before)
            self.assertEqual(table_of(machine), wanted)
        for machine in (DOUBLES, RINGS):
            with self.assertRaises(Doubling) as caught:
                table_of(machine)
            caught.exception.pump[0].append("changed")
            with self.assertRaises(Doubling) as caught:
                table_of(machine)
            self.is_true(lets_pump(machine, caught.exception.pump))


class Greatest(Case):

    def test_from_vector_to_vector(self):
        seen = set()
        for machine in never() + [SIDE, VECTORS[400], VECTORS[401], VECTORS[2000]]:
            wanted = first_greatest(machine)
            self.same_kinds(kept(greatest, machine), wanted)
            seen.add(wanted[0])
        self.assertTrue({0, 1, 2, 3} <= seen)

    def test_by_all_words(self):
        for machine in never():
            listed = words(signs_in(machine), 6 if len(signs_in(machine)) < 3 else 4)
            many, word = greatest(machine)
            self.assertLessEqual(max(ways(machine, each) for each in listed), many)
            if word is not None:
                self.assertEqual(ways(machine, word), many)
                if word in listed:
                    self.assertTrue(all(ways(machine, each) < many for each in listed[:listed.index(word)]))

    def test_told(self):
        self.same_kinds(greatest(SIDE), (3, "a" * 59))
        self.same_kinds(greatest((1, [0], [0], [])), (1, ""))
        self.same_kinds(greatest((3, [0, 1, 2], [0, 2], [])), (2, ""))
        self.same_kinds(greatest((3, [0], [2], [(0, "a", 2), (0, "a", 1), (1, "b", 2), (2, "b", 2)])), (2, "ab"))
        self.same_kinds(greatest((3, [0], [2], [(0, "z", 2), (0, "b", 2), (0, "b", 1), (1, "a", 1)])), (1, "b"))
        self.same_kinds(greatest(chain(1)), (1, ""))

    def test_where_no_word_is_read(self):
        for machine in ((1, [], [], []), (1, [], [0], []), (2, [0], [], [(0, "a", 1)]), (2, [0], [1], []),
                        (12, [0], [], crowded()[3]), (2, [0, 1], [], [(0, "a", 0), (0, "a", 1), (1, "a", 1)])):
            self.same_kinds(greatest(machine), (0, None))

    def test_2000_vectors_and_one_more(self):
        for many, machine in VECTORS.items():
            if many <= 2000:
                self.same_kinds(greatest(machine), first_greatest(machine))
            else:
                self.refused(TooMany, {"many": 2000}, greatest, machine)
        self.refused(TooMany, {"many": 2000}, greatest, ALL)

    def test_where_they_grow(self):
        for machine, how in growing() + [(THREE, ("power", 2)), (TURNS, ("power", 1))]:
            if how[0] == "power":
                self.refused(Growing, {"power": how[1]}, greatest, machine)
        self.refused(Growing, {"power": 1}, greatest, BESIDE)

    def test_where_they_double(self):
        for machine in doubling():
            with self.assertRaises(Doubling) as caught:
                greatest(machine)
            self.is_true(lets_pump(machine, caught.exception.pump))

    def test_called_otherwise(self):
        chance = random.Random(101)
        for machine in never() + [SIDE]:
            names = list(range(machine[0]))
            chance.shuffle(names)
            self.same_kinds(greatest(called(machine, names)), greatest(machine))
            many, firsts, lasts, steps = machine
            self.same_kinds(greatest((many, firsts, lasts, steps[::-1])), greatest(machine))

    def test_what_is_no_machine(self):
        for thing, part, number in no_machines() + [(thing, "machine", None) for thing in oddities()]:
            self.refused(NoMachine, {"part": part, "number": number}, greatest, thing)

    def test_called_by_name(self):
        self.assertEqual(greatest(machine=chain(1)), (1, ""))
        self.assertEqual(table_of(machine=chain(1), most=1), ([0], [[[1]]]))
        self.assertEqual(table_of(most=2, machine=chain(2)), ([0, 1], [[[1, 0]], [[0, 1]]]))

    def test_just_one_is_told_of_every_machine(self):
        for machine in machines() + drawn(103, 60) + [machine for machine, _ in growing()]:
            how = growth(machine)
            self.assertEqual(how == ("doubles",), ranks(machine) is None)
            try:
                many, word = greatest(machine)
                self.assertEqual(how, ("never",))
                self.assertEqual(word is None, many == 0)
                self.assertTrue(word is None or ways(machine, word) == many)
                self.assertEqual(word is None, useful_rooms(machine) == [])
            except Growing as refusal:
                self.assertEqual(how, ("power", refusal.power))
                self.assertGreater(refusal.power, 0)
            except Doubling:
                self.assertEqual(how, ("doubles",))
