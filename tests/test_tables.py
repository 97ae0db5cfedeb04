"""0.4, 10.1, 10.2: tables, who lets them by, and the bounds that they tell."""

import copy
import random
from math import comb

from tests.helper import (BESIDE, INTO, RINGS, Case, chain, crowded, growing, kept, machines, no_machines, no_numbers,
                          oddities, useful_rooms, words)
from tests.test_rounds import THREE, TURNS, drawn, signs_in
from triesgrow.errors import NoMachine, NoNumber
from triesgrow.growth import ranks
from triesgrow.pumps import laid, least_ways, pump_of
from triesgrow.tables import bound, lets_table
from triesgrow.ways import ways

TWO = chain(2)
TABLE = ([0, 1], [[[1, 0]], [[0, 1]]])
# Room 2 leads to no last, and no first leads to room 3.
PARTLY = (4, [0], [0, 1], [(0, "a", 0), (0, "b", 0), (0, "b", 1), (0, "a", 2), (3, "a", 1), (1, "b", 1), (1, "a", 1),
                           (2, "b", 2)])
PARTS = ([0, 1, None, None], [[[1, 0, 0, 0]], [[0, 1, 0, 0]]])


def begin_of(machine):
    return tuple(int(room in machine[1] and room in useful_rooms(machine)) for room in range(machine[0]))


def by_sign(machine, vector, sign):
    """What the vector becomes by the sign."""
    rooms = useful_rooms(machine)
    after = [0] * machine[0]
    for room, by, other in machine[3]:
        if by == sign and room in rooms and other in rooms:
            after[other] += vector[room]
    return tuple(after)


def split(vector, listed):
    """The shares of the vector that aren't 0 everywhere, each with its rank."""
    told = {}
    for room, many in enumerate(vector):
        if many:
            told.setdefault(listed[room], [0] * len(vector))[room] = many
    return sorted((rank, tuple(share)) for rank, share in told.items())


def closed(machine, listed):
    """The table with these ranks and the least parts, as the test finds them."""
    parts = [set() for _ in range(max([rank for rank in listed if rank is not None], default=0) + 1)]
    waiting = split(begin_of(machine), listed)
    while waiting:
        rank, vector = waiting.pop()
        if vector not in parts[rank]:
            parts[rank].add(vector)
            for sign in signs_in(machine):
                waiting += split(by_sign(machine, vector, sign), listed)
    return listed, [[list(vector) for vector in sorted(part)] for part in parts]


def looked_at(machine, table):
    """Whether a thing that is formed as a table is let by, as the test looks at it."""
    listed, parts = table
    rooms = useful_rooms(machine)
    if len(listed) != machine[0] or any((rank is None) == (room in rooms) for room, rank in enumerate(listed)):
        return False
    known = [rank for rank in listed if rank is not None]
    if not all(0 <= rank <= 11 for rank in known) or len(parts) != max(known, default=0) + 1:
        return False
    for rank, part in enumerate(parts):
        for vector in part:
            if len(vector) != machine[0] or not any(vector) or min(vector) < 0:
                return False
            if any(many and listed[room] != rank for room, many in enumerate(vector)):
                return False

    def held(shares, least):
        return all(rank >= least and any(all(one <= other for one, other in zip(share, above))
                                         for above in parts[rank]) for rank, share in shares)

    return held(split(begin_of(machine), listed), 0) and all(
        held(split(by_sign(machine, vector, sign), listed), rank)
        for rank, part in enumerate(parts) for vector in part for sign in signs_in(machine))


def with_tables():
    """Machines of which ways don't double, each with the table that the test itself has closed."""
    told = [machine for machine, how in growing() if how != ("doubles",)] + machines() + drawn(67, 60)
    told += [THREE, TURNS, PARTLY]
    return [(machine, closed(machine, ranks(machine))) for machine in told if ranks(machine) is not None]


def put_otherwise(machine, table, chance):
    """The table with one thing put otherwise, most often formed as one still."""
    listed, parts = copy.deepcopy(table)
    which = chance.randrange(8)
    part = chance.choice(parts)
    if which == 0:
        room = chance.randrange(len(listed))
        listed[room] = chance.choice([None, 0, 1, 2, 11, 12, -1])
    elif which == 1:
        parts.insert(chance.randrange(len(parts) + 1), [])
    elif which == 2:
        del parts[chance.randrange(len(parts))]
    elif which == 3 and part:
        del part[chance.randrange(len(part))]
    elif which == 4 and part:
        vector = chance.choice(part)
        vector[chance.randrange(len(vector))] += chance.choice([-1, 1, 1, 10 ** 50])
    elif which == 5 and part:
        part.insert(chance.randrange(len(part) + 1), list(chance.choice(part)))
    elif which == 6 and part:
        # One vector that stands above all of the part.
        part[:] = [[max(column) for column in zip(*part)]]
    elif which == 7:
        part.append([chance.randrange(2) for _ in listed])
    return listed, parts


def ranks_doubled(listed):
    return [rank and 2 * rank for rank in listed]


class LetBy(Case):

    def test_tables_that_the_test_has_closed(self):
        tables = with_tables()
        self.assertGreater(len(tables), 60)
        for machine, table in tables:
            self.is_true(kept(lets_table, machine, table), (machine, table))
            self.assertTrue(looked_at(machine, table))

    def test_with_one_thing_put_otherwise(self):
        chance = random.Random(71)
        counted = {True: 0, False: 0}
        for machine, table in with_tables():
            for _ in range(25):
                other = put_otherwise(machine, table, chance)
                wanted = looked_at(machine, other)
                self.assertIs(kept(lets_table, machine, other), wanted, (machine, other))
                counted[wanted] += 1
        self.assertGreater(min(counted.values()), 300)

    def test_other_ranks(self):
        for machine, (listed, _) in with_tables():
            if max([rank for rank in listed if rank is not None], default=0) <= 5:
                table = closed(machine, ranks_doubled(listed))
                self.is_true(lets_table(machine, table))
                if len(table[1]) > 1:
                    self.is_false(lets_table(machine, (listed, table[1])))
        # Where no rooms lead back a rank of its own will do for each room; and one that falls will not.
        chain_of_steps = (3, [0], [2], [(0, "a", 1), (1, "a", 2), (0, "b", 2)])
        self.is_true(lets_table(chain_of_steps, ([0, 4, 11], closed(chain_of_steps, [0, 4, 11])[1])))
        self.is_true(lets_table(chain_of_steps, closed(chain_of_steps, [3, 3, 3])))
        for falling in ([1, 0, 2], [0, 2, 1], [2, 2, 0], [1, 1, 0]):
            self.is_false(lets_table(chain_of_steps, closed(chain_of_steps, falling)))

    def test_told(self):
        self.is_true(lets_table(TWO, TABLE))
        self.is_true(lets_table(TWO, ([0, 1], [[[1, 0]], [[0, 3]]])))
        self.is_true(lets_table(TWO, ([0, 1], [[[1, 0], [2, 0]], [[0, 2], [0, 1]]])))
        self.is_false(lets_table(TWO, ([0, 1], [[[1, 0], [2, 0]], [[0, 1]]])))
        self.is_true(lets_table(TWO, ([0, 2], [[[1, 0]], [], [[0, 1]]])))
        self.is_false(lets_table(TWO, ([0, 0], [[[1, 0], [1, 1], [1, 2]]])))
        self.is_true(lets_table(PARTLY, PARTS))
        self.is_false(lets_table(PARTLY, ([0, 1, 0, None], PARTS[1])))
        self.is_false(lets_table(PARTLY, ([0, None, None, None], PARTS[1])))

    def test_vectors_twice_of_noughts_or_of_another_rank(self):
        self.is_true(lets_table(TWO, ([0, 1], [[[1, 0], [1, 0]], [[0, 1], [0, 1]]])))
        for parts in (
            [[[1, 0], [0, 0]], [[0, 1]]], [[[1, 0]], [[0, 1], [0, 0]]], [[[1, 1]], [[0, 1]]], [[[1, 0]], [[1, 1]]],
            [[[0, 1]], [[0, 1]]], [[[1, 0], [0, 1]], [[0, 1]]], [[[1, 0]], [[0, 1], [1, 0]]],
        ):
            self.is_false(lets_table(TWO, ([0, 1], parts)), parts)
        self.is_false(lets_table(PARTLY, ([0, 1, None, None], [[[1, 0, 1, 0]], [[0, 1, 0, 0]]])))
        self.is_false(lets_table(PARTLY, ([0, 1, None, None], [[[1, 0, 0, 0]], [[0, 1, 0, 0], [0, 0, 0, 1]]])))

    def test_parts_less_or_more(self):
        for parts in ([], [[[1, 0]]], [[[1, 0]], [[0, 1]], []], [[[1, 0]], [[0, 1]], [[0, 1]]], [[], []],
                      [[[1, 0]], []], [[], [[0, 1]]], [[], [[1, 0]], [[0, 1]]]):
            self.is_false(lets_table(TWO, ([0, 1], parts)), parts)

    def test_without_useful_rooms(self):
        for machine in ((2, [], [0, 1], [(0, "a", 1)]), (2, [0, 1], [], [(0, "a", 1)]), (2, [0], [1], [])):
            self.is_true(lets_table(machine, ([None, None], [[]])))
            for thing in (([None, None], []), ([None, None], [[], []]), ([None, None], [[[0, 0]]]), ([], [[]]),
                          ([None, None], [[[1, 0]]]), ([0, None], [[[1, 0]]]), ([None], [[]]), ([None] * 3, [[]])):
                self.is_false(lets_table(machine, thing), thing)

    def test_one_room_and_twelve(self):
        self.is_true(lets_table((1, [0], [0], []), ([0], [[[1]]])))
        self.is_true(lets_table((1, [0], [0], []), ([11], [[]] * 11 + [[[1]]])))
        self.is_false(lets_table((1, [0], [0], []), ([12], [[]] * 12 + [[[1]]])))
        table = closed(chain(12), list(range(12)))
        self.is_true(lets_table(chain(12), table))
        self.assertEqual([len(part) for part in table[1]], [1] * 12)
        for at in range(12):
            other = copy.deepcopy(table)
            other[1][at][0][at] = 2
            self.assertIs(lets_table(chain(12), other), at == 11)

    def test_where_ways_double_no_table_is_let_by(self):
        loops = (2, [0], [0], [(0, "a", 0), (0, "a", 1), (1, "a", 0)])
        for high in (1, 2, 10 ** 50):
            self.is_false(lets_table(loops, ([0, 0], [[[high, high]]])))
            self.is_false(lets_table(loops, ([0, 1], [[[high, 0]], [[0, high]]])))
            self.is_false(lets_table(loops, ([1, 0], [[[0, high]], [[high, 0]]])))
        chance = random.Random(73)
        for _ in range(300):
            listed = [chance.randrange(2) for _ in range(2)]
            parts = [[[chance.randrange(4) if rank == own else 0 for own in listed] for _ in range(3)]
                     for rank in range(max(listed) + 1)]
            self.is_false(lets_table(loops, (listed, parts)))
        self.is_false(lets_table(RINGS, ([0] * 11, [[[10 ** 9] * 11]])))

    def test_a_sign_that_leads_nowhere_needs_no_vector(self):
        machine = (3, [0], [0], [(0, "a", 0), (0, "b", 1), (2, "c", 0)])
        self.is_true(lets_table(machine, ([0, None, None], [[[1, 0, 0]]])))

    def test_shares_of_several_ranks_at_once(self):
        machine = (3, [0, 1, 2], [2], [(0, "a", 1), (0, "a", 2), (1, "a", 2), (2, "a", 2)])
        table = closed(machine, [0, 1, 2])
        self.assertEqual(table[1], [[[1, 0, 0]], [[0, 1, 0]], [[0, 0, 1]]])
        self.is_true(lets_table(machine, table))
        self.is_false(lets_table(machine, ([0, 1, 2], [[[1, 0, 0]], [], [[0, 0, 1]]])))
        self.is_false(lets_table(machine, closed(machine, [0, 2, 1])))

    def test_many_vectors(self):
        turns = (12, list(range(11)), [0], [(room, "a", (room + 1) % 11) for room in range(11)]
                 + [(room, "b", room) for room in range(1, 11)])
        parts = [[1 if number >> room & 1 else 0 for room in range(11)] + [0] for number in range(1, 1 << 11)]
        listed = [0] * 11 + [None]
        self.is_true(lets_table(turns, (listed, [parts])))
        self.is_true(lets_table(turns, (listed, [parts[::-1]])))
        self.is_true(lets_table(turns, (listed, [parts[-1:]])))
        self.is_true(lets_table(turns, (listed, [[[2] * 11 + [0]]])))
        self.is_false(lets_table(turns, (listed, [parts[:-1]])))
        self.is_false(lets_table(turns, (listed, [[[2] * 10 + [1, 0]]])))


class NoTables(Case):

    def test_things_of_every_kind(self):
        for machine in (TWO, RINGS, (1, [], [], [])):
            for thing in oddities() + machines()[:3]:
                self.is_false(lets_table(machine, thing), thing)
        for thing in oddities():
            self.is_false(lets_table(TWO, (thing, TABLE[1])), thing)
            self.is_false(lets_table(TWO, (TABLE[0], thing)), thing)
            self.is_false(lets_table(TWO, ([0, thing], TABLE[1])) and thing != 1, thing)
            self.is_false(lets_table(TWO, ([thing, 1], TABLE[1])) and thing != 0, thing)
            self.is_false(lets_table(TWO, ([0, 1], [thing, [[0, 1]]])), thing)
            self.is_false(lets_table(TWO, ([0, 1], [[thing], [[0, 1]]])), thing)
            self.is_false(lets_table(TWO, ([0, 1], [[[1, 0], thing], [[0, 1]]])), thing)
            whole = type(thing) is int and thing >= 0
            self.assertIs(lets_table(TWO, ([0, 1], [[[1, thing]], [[0, 1]]])), whole and thing == 0, thing)
            self.assertIs(lets_table(TWO, ([0, 1], [[[1, 0]], [[0, thing]]])), whole and thing > 0, thing)

    def test_forms_that_are_nearly_one(self):
        listed, parts = TABLE
        for thing in [
            [listed, parts], (listed,), (listed, parts, None), (tuple(listed), parts), (listed, tuple(parts)),
            (listed, [((1, 0),), ((0, 1),)]), (listed, [[(1, 0)], [(0, 1)]]), (listed, [([1, 0],), ([0, 1],)]),
            ([0, 1, None], parts), ([0, 1, 1], parts), ([0], parts), ([], parts), ([False, True], parts),
            ([0, True], parts), ([0.0, 1.0], parts), (["0", "1"], parts), ([0, -1], parts), ([None, None], parts),
            (listed, [[[True, 0]], [[0, 1]]]), (listed, [[[1, False]], [[0, 1]]]), (listed, [[[1, 0.0]], [[0, 1]]]),
            (listed, [[[1]], [[1]]]), (listed, [[[1, 0, 0]], [[0, 1, 0]]]), (listed, [[[]], [[]]]),
            (listed, [[[1, 0]], [[0, -1]]]), (listed, [[[1, -1]], [[0, 1]]]), (listed, [[1, 0], [0, 1]]),
            (listed, {0: [[1, 0]], 1: [[0, 1]]}), (listed, [[[1, None]], [[0, 1]]]), (None, None),
            ({0: 0, 1: 1}, parts),
            (listed, "ab"), (listed, [[[1, 0]], None]), (listed, [None, [[0, 1]]]), ([0, None], [[[1, 0]]]),
        ]:
            self.is_false(lets_table(TWO, thing), thing)

    def test_what_is_no_machine_ahead_of_all_else(self):
        for thing, part, number in no_machines() + [(thing, "machine", None) for thing in oddities()]:
            values = {"part": part, "number": number}
            self.refused(NoMachine, values, lets_table, thing, TABLE)
            self.refused(NoMachine, values, lets_table, thing, None)
            self.refused(NoMachine, values, bound, thing, TABLE, 3)
            self.refused(NoMachine, values, bound, thing, TABLE, -1)


class Bound(Case):

    def test_sums_of_powers(self):
        for n in (0, 1, 2, 3, 10, 400, 10 ** 9):
            self.same_kinds(bound(TWO, TABLE, n), n + 1)
            self.same_kinds(bound(TWO, ([0, 1], [[[1, 0]], [[0, 3]]]), n), 3 * (n + 1))
            self.same_kinds(bound(chain(12), closed(chain(12), list(range(12))), n), comb(n + 11, 11))
            self.same_kinds(bound((2, [], [0], []), ([None, None], [[]]), n), 0)
            self.same_kinds(bound((1, [0], [0], []), ([2], [[], [], [[1]]]), n), comb(n + 2, 2))
            self.same_kinds(bound(PARTLY, PARTS, n), n + 2)

    def test_the_greatest_sum_over_the_lasts(self):
        machine = (3, [0], [0, 2], [(0, "a", 0), (0, "a", 1), (0, "b", 2), (1, "b", 2), (2, "b", 0)])
        table = ([0, 0, 0], [[[9, 9, 0], [5, 0, 5], [0, 9, 1], [1, 2, 3]]])
        self.assertEqual(bound(machine, table, 7), 10)
        self.assertEqual(bound((3, [0], [1], machine[3]), table, 7), 9)
        self.assertEqual(bound((3, [0], [0, 1, 2], machine[3]), table, 7), 18)

    def test_no_word_has_more_ways(self):
        chance = random.Random(79)
        seen = 0
        for machine, table in with_tables():
            others = [put_otherwise(machine, table, chance) for _ in range(6)]
            tables = [table] + [other for other in others if lets_table(machine, other)]
            pump = pump_of(machine)
            for word in words(signs_in(machine), 4 if len(signs_in(machine)) < 3 else 3):
                for each in tables:
                    seen += 1
                    self.assertLessEqual(ways(machine, word), bound(machine, each, len(word)))
            for many in range(20 if pump else 0):
                if sum(map(len, pump[0])) * (many + 1) <= 400:
                    word = laid(pump, many)
                    for each in tables:
                        self.assertLessEqual(least_ways(pump, many), bound(machine, each, len(word)))
                        self.assertLessEqual(ways(machine, word), bound(machine, each, len(word)))
        self.assertGreater(seen, 2000)

    def test_never_above_the_sum_of_all_tops_times_a_power(self):
        for machine, table in with_tables():
            tops = [max([sum(vector[last] for last in machine[2]) for vector in part], default=0) for part in table[1]]
            for n in (0, 1, 2, 5, 100, 10 ** 9):
                told = kept(bound, machine, table, n)
                self.assertEqual(told, sum(top * comb(n + at, at) for at, top in enumerate(tops)))
                self.assertLessEqual(told, sum(tops) * (n + 1) ** (len(tops) - 1))

    def test_what_is_no_n(self):
        for thing in no_numbers(0, 10 ** 9):
            self.refused(NoNumber, {"number": thing}, bound, TWO, TABLE, thing)
            self.refused(NoNumber, {"number": thing}, bound, machine=TWO, table=TABLE, n=thing)
        self.assertEqual(bound(TWO, TABLE, 10 ** 9), 10 ** 9 + 1)

    def test_called_by_name(self):
        self.is_true(lets_table(machine=TWO, thing=TABLE))
        self.is_true(lets_table(thing=TABLE, machine=TWO))
        self.assertEqual(bound(n=4, table=TABLE, machine=TWO), 5)


class Never(Case):

    def test_both_a_table_and_a_pump_that_grows_faster(self):
        for machine in [machine for machine, _ in growing()] + machines() + drawn(83, 60) + [INTO, BESIDE, crowded()]:
            pump = pump_of(machine)
            listed = ranks(machine)
            if pump is not None and listed is None:
                self.assertTrue(all(room == other for room, other in pump[1]))
                rooms = useful_rooms(machine)
                flat = [0 if room in rooms else None for room in range(machine[0])]
                high = [10 ** 20 if room in rooms else 0 for room in range(machine[0])]
                self.is_false(lets_table(machine, (flat, [[high]])))
            elif pump is not None:
                power = max(rank for rank in listed if rank is not None)
                self.assertEqual(len(pump[1]), power)
                # A table of a lesser rank isn't let by, however high its vectors are.
                lesser = [rank and min(rank, power - 1) for rank in listed]
                parts = [[[10 ** 20 * (own == rank) for own in lesser]] for rank in range(power)]
                self.is_false(lets_table(machine, (lesser, parts)))
