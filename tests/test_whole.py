"""0.2, 0.4: what is promised over the whole program."""

import copy
import random

from tests.helper import INTO, RINGS, Case, chain, growing, kept, listed_beginnings, listed_ways, machines, words
from tests.test_otherwise import drawn as drawn_patterns
from tests.test_rounds import THREE, TURNS, drawn, signs_in
from triesgrow.above import greatest, table_of
from triesgrow.errors import Doubling, Growing, Parted, TooMany
from triesgrow.growth import growth, ranks
from triesgrow.known import Known
from triesgrow.machines import beginnings, called, turned
from triesgrow.machinetexts import read_machine, shown_machine
from triesgrow.numbering import number_of, way_at
from triesgrow.otherwise import put_otherwise
from triesgrow.patterntexts import read, shown
from triesgrow.positions import machine_of
from triesgrow.pumps import laid, least_ways, lets_pump, pump_of
from triesgrow.reader import Reader
from triesgrow.roomtexts import rooms_text
from triesgrow.rounds import double_rounds, led_rounds
from triesgrow.sameness import closed_of, lets_closed, parting
from triesgrow.sets import sets_of
from triesgrow.slow import slow_pump, slow_word, stopper
from triesgrow.tables import bound, lets_table
from triesgrow.trier import Trier
from triesgrow.tries import tries_all, tries_to
from triesgrow.useful import trimmed, useful
from triesgrow.ways import beginnings_by, counts, reached, ways

POWERS = {"never": 0, "power": 1, "doubles": 2}


def all_machines():
    told = [machine for machine, _ in growing()] + machines() + drawn(173, 60) + [INTO, RINGS, THREE, TURNS]
    return told + [machine_of(pattern) for pattern in drawn_patterns(179, 60, 5)]


def set_number(sets, word):
    """The number of the set to which the word leads; None where it has a sign that no step has."""
    number = 0
    for sign in word:
        number = dict(sets[number][1]).get(sign)
        if number is None:
            return None
    return number


class Same(Case):

    def test_all_say_the_same_of_each_word(self):
        chance = random.Random(181)
        for machine in all_machines():
            sets = sets_of(machine, 4096)
            memory = Known(machine, chance.randint(1, 5))
            signs = signs_in(machine)
            listed_words = words(signs + "z", 3)
            for word in chance.sample(listed_words, min(6, len(listed_words))) + [(signs * 5)[:5], signs[:1] * 6]:
                listed = listed_ways(machine, word)
                if sum(beginnings_by(machine, word)) > 3000:
                    continue
                trier = Trier(machine, word, 5000)
                while trier.go() is not None:
                    pass
                self.assertEqual(trier.found(), listed)
                self.assertEqual(trier.tries(), tries_all(machine, word))
                self.assertEqual(trier.tries(), sum(len(listed_beginnings(machine, word[:many]))
                                                    for many in range(len(word) + 1)))
                self.assertEqual(len(trier), ways(machine, word))
                reader = Reader(machine)
                reader.take(word)
                self.assertEqual(reader.ways(), len(listed))
                self.assertEqual((reader.counts(), reader.reached()), (counts(machine, word), reached(machine, word)))
                self.assertIs(reader.is_read(), bool(listed))
                self.assertIs(memory.reads(word), bool(listed))
                self.assertEqual(memory.reached(word), reached(machine, word))
                number = set_number(sets, word)
                rooms = reached(machine, word)
                self.assertEqual(rooms_text(machine, rooms), "0" * machine[0] if number is None else sets[number][0])
                for at, way in enumerate(listed[:5]):
                    self.assertEqual(way_at(machine, word, at), way)
                    self.assertEqual(number_of(machine, word, way), at)
                    self.assertLessEqual(tries_to(machine, word, at), trier.tries())


class Grows(Case):

    def test_just_one_is_told_of_every_machine(self):
        seen = set()
        for machine in all_machines():
            how = growth(machine)
            seen.add(how[0])
            pump = pump_of(machine)
            if how == ("doubles",):
                self.assertEqual([room for room, _ in pump[1]], [other for _, other in pump[1]])
                for call in (table_of, greatest):
                    with self.assertRaises(Doubling) as caught:
                        call(machine)
                    self.is_true(lets_pump(machine, caught.exception.pump))
                continue
            table = table_of(machine, 4000)
            self.is_true(lets_table(machine, table))
            self.assertEqual(table[0], ranks(machine))
            self.assertEqual(len(table[1]) - 1, how[1] if how[0] == "power" else 0)
            if how == ("never",):
                self.assertIsNone(pump)
                many, word = greatest(machine)
                self.assertEqual(many, 0 if word is None else ways(machine, word))
                self.assertEqual(word is None, useful(machine) == [])
            else:
                self.assertGreater(how[1], 0)
                self.assertEqual(len(pump[1]), how[1])
                self.refused(Growing, {"power": how[1]}, greatest, machine)
        self.assertEqual(seen, {"never", "power", "doubles"})

    def test_pumps_from_below_and_tables_from_above(self):
        for machine in all_machines():
            pump = pump_of(machine)
            table = None if growth(machine) == ("doubles",) else table_of(machine, 4000)
            for many in (0, 1, 2, 3, 7, 19) if pump else ():
                try:
                    word = laid(pump, many)
                except TooMany:
                    continue
                self.assertGreaterEqual(ways(machine, word), least_ways(pump, many))
                if table:
                    self.assertLessEqual(ways(machine, word), bound(machine, table, len(word)))

    def test_the_same_of_a_machine_called_otherwise_trimmed_or_turned_about(self):
        chance = random.Random(191)
        for machine in all_machines():
            names = list(range(machine[0]))
            chance.shuffle(names)
            self.assertEqual(growth(called(machine, names)), growth(machine))
            self.assertEqual(growth(trimmed(machine)), growth(machine))
            self.assertEqual(growth(turned(machine)), growth(machine))
            self.assertEqual(growth(read_machine(shown_machine(machine))), growth(machine))
            order = (POWERS[growth(machine)[0]], growth(machine)[1:])
            self.assertLessEqual(order, (POWERS[growth(beginnings(machine))[0]], growth(beginnings(machine))[1:]))

    def test_slow_words(self):
        seen = 0
        for machine in all_machines():
            pump = slow_pump(machine)
            for many in (0, 1, 4) if pump else ():
                try:
                    word = slow_word(machine, many)
                except TooMany:
                    continue
                seen += 1
                self.assertEqual(word[-1], stopper(machine))
                self.assertEqual(ways(machine, word), 0)
                self.assertGreaterEqual(tries_all(machine, word), least_ways(pump, many))
        self.assertGreater(seen, 150)


class Compared(Case):

    def test_a_word_or_a_closed_table(self):
        counted = {True: 0, False: 0}
        listed = [machine for machine in all_machines() if machine[0] < 6]
        for at, one in enumerate(listed):
            for other in listed[at % 7::7]:
                word = parting(one, other)
                counted[word is None] += 1
                if word is None:
                    self.is_true(lets_closed(one, other, closed_of(one, other)))
                else:
                    self.assertNotEqual(ways(one, word) > 0, ways(other, word) > 0)
                    self.refused(Parted, {"word": word}, closed_of, one, other)
        self.assertGreater(min(counted.values()), 100)

    def test_patterns_put_otherwise(self):
        for pattern in drawn_patterns(193, 120, 6):
            other = put_otherwise(pattern)
            one, two = machine_of(pattern), machine_of(other)
            self.assertIsNone(parting(one, two))
            self.is_true(lets_closed(one, two, closed_of(one, two)))
            before, after = growth(one), growth(two)
            self.assertLessEqual((POWERS[after[0]], after[1:]), (POWERS[before[0]], before[1:]))
            self.assertEqual(put_otherwise(read(shown(other))), other)
            for word in words(signs_in(one), 3):
                self.assertLessEqual(ways(two, word), ways(one, word))
                self.assertLessEqual(tries_all(two, word), tries_all(one, word))


class Own(Case):

    def test_what_is_told_is_the_askers_own_and_what_is_handed_in_stays(self):
        for machine in [chain(3), INTO, RINGS, TURNS, (1, [], [], [])] + drawn(197, 12):
            pump, table = pump_of(machine), None
            calls = [useful, trimmed, double_rounds, led_rounds, ranks, growth, pump_of, sets_of, slow_pump, stopper,
                     beginnings, turned]
            handed = [(machine,)] * len(calls)
            if growth(machine) != ("doubles",):
                table = table_of(machine)
                calls += [table_of, lets_table, bound]
                handed += [(machine,), (machine, table), (machine, table, 7)]
            if growth(machine) == ("never",):
                calls.append(greatest)
                handed.append((machine,))
            if pump is not None:
                calls += [lets_pump, laid, least_ways]
                handed += [(machine, pump), (pump,), (pump, 2)]
            calls += [parting, closed_of]
            handed += [(machine, machine)] * 2
            told = [kept(call, *each) for call, each in zip(calls, handed)]
            wanted = copy.deepcopy(told)
            before = copy.deepcopy((machine, pump, table))
            for each in told:
                spoil(each)
            self.assertEqual((machine, pump, table), before)
            self.assertEqual([call(*each) for call, each in zip(calls, handed)], wanted)


def spoil(thing):
    """Changes every list within the thing."""
    if isinstance(thing, (list, tuple)):
        for each in thing:
            spoil(each)
    if isinstance(thing, list):
        thing.append("changed")
        thing[0] = None
