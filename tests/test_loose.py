import itertools
import random
import unittest

from tests.reference import BIG, FIVE, FOUR, RING, SMALL, SQUARE, TWENTY
from tests.support import WRONG, Case
from underwords.groups.systems import System
from underwords.groups.words import inverse, members, normal, of_length, product, shortest_words
from underwords.loose.loose import (
    heap_of, is_loose, is_loose_paper, loose_members, loose_of_length, loose_paper, readings,
)
from underwords.rows.rows import pattern_places, row_of

SIGNED = System.signed(3)
TWICE = System(4, ((0, 1, 0), (2, 3, 0)))
MANY = (0, 1) * 4 + (2, 3) * 4


def run_starts(system, word):
    found = []
    for at in range(len(word) - 1):
        if word[at] != word[at + 1]:
            bond = system.bond_of(word[at], word[at + 1])
            stretch = tuple(word[at + step % 2] for step in range(bond))
            if bond >= 3 and word[at:at + bond] == stretch:
                found.append(at)
    return found


def has_run(system, word):
    return any(run_starts(system, told) for told in shortest_words(system, word))


def ties_of(system, word):
    """The pairs of places a, b with a ahead of b and none between, by the closure of what is told."""
    size = range(len(word))
    ahead = {(a, b) for a in size for b in size
             if a < b and (word[a] == word[b] or system.bond_of(word[a], word[b]) != 2)}
    for middle in size:
        ahead |= {(a, b) for a in size for b in size if (a, middle) in ahead and (middle, b) in ahead}
    return tuple(sorted((a, b) for a, b in ahead if not any((a, c) in ahead and (c, b) in ahead for c in size)))


def some(system, most, many, chance):
    found = [word for size in range(most + 1) for word in of_length(system, size)]
    return found if len(found) <= many else chance.sample(found, many)


def told_words():
    chance = random.Random(1)
    told = [(system, word) for system in (FOUR, SQUARE, SIGNED, System.polygon(6)) for word in members(system)]
    told += [(system, word) for system in (FIVE, TWENTY) for word in members(system)[::2]]
    return told + [(system, word) for system in SMALL + BIG for word in some(system, 6 if system.letters < 4 else 4, 14, chance)]


class LooseTest(Case):
    def test_numbers_that_are_told(self):
        self.assertEqual([len(loose_members(System.rows(places))) for places in range(2, 6)], [2, 5, 14, 42])
        self.assertEqual([len(loose_members(System.signed(places))) for places in (2, 3)], [7, 24])
        self.assertEqual(len(loose_members(TWENTY)), 44)
        self.assertEqual([len(loose_members(System.polygon(bond))) for bond in (2, 3, 4, 5, 6)], [4, 5, 7, 9, 11])

    def test_members_of_systems_against_their_words(self):
        for system in (FOUR, SQUARE, SIGNED, TWENTY, System(1), System(3), System(4, ((0, 1, 5), (2, 3, 6)))):
            wanted = tuple(word for word in members(system) if not has_run(system, word))
            self.assertEqual(loose_members(system), wanted)
            for size in range(7):
                self.assertEqual(loose_of_length(system, size), tuple(word for word in wanted if len(word) == size))
            self.assertEqual({inverse(system, word) for word in wanted}, set(wanted))

    def test_rows_without_321(self):
        for places in range(2, 6):
            system = System.rows(places)
            for word in members(system):
                row = row_of(word, places)
                self.assertIs(is_loose(system, word), places < 3 or pattern_places(row, (3, 2, 1)) is None)

    def test_papers(self):
        kinds = set()
        for system, word in told_words():
            wanted = not has_run(system, word)
            self.assertIs(is_loose(system, word), wanted)
            paper = loose_paper(system, word)
            kinds.add(paper[0])
            if wanted:
                self.assertEqual(paper, ("loose", ties_of(system, word)))
            else:
                self.assertEqual((paper[0], len(paper)), ("run", 3))
                self.assertIn(paper[1], shortest_words(system, word))
                self.assertIn(paper[2], run_starts(system, paper[1]))
            self.assertIs(is_loose_paper(system, word, paper), True)
            for told in shortest_words(system, word)[:40]:
                for at in range(-1, len(word) + 1):
                    self.assertIs(is_loose_paper(system, word, ("run", told, at)), at in run_starts(system, told))
            self.assertIs(is_loose_paper(system, word, ("loose", ties_of(system, word))), wanted)
        self.assertEqual(kinds, {"loose", "run"})

    def test_values_near_to_papers(self):
        for value in ((), ("Loose", ((0, 1), (0, 2))), ("run", ((0, 1), (0, 2))), ("loose", ((0, 1),)), ("loose", ((0, 2), (0, 1))), ("loose", ((0, 1), (0, 2), (0, 2))), ("loose", [(0, 1), (0, 2)]),
                      ("loose", ((False, 1), (0, 2))), ("loose", ((0, True), (0, 2))), ("loose", ([0, 1], (0, 2))), ("loose",), ("run", (1, 0, 2), 0),
                      ("loose", ((0, 1), (0, 2)), 0), ["loose", ((0, 1), (0, 2))], ("loose", None), (True, ((0, 1), (0, 2))), ("loose", ((0, 1), (1, 2))),
                      ("loose", ((0, 1), (0, 2.0))), ("loose", ((0, 1), (0, 2, 3))), ("loose", "0102"), *WRONG):
            self.assertIs(is_loose_paper(FOUR, (1, 0, 2), value), False, value)
        self.assertIs(is_loose_paper(FOUR, (1, 2, 0), ("loose", ((0, 1), (0, 2)))), True)
        for value in (("run", (2, 0, 1, 0), 0), ("run", (2, 0, 1, 0), True), ("run", (2, 0, 1, 0), 2), ("run", (2, 0, 1, 0), -3), ("run", (0, 1, 0), 0),
                      ("run", [2, 0, 1, 0], 1), ("run", (2, False, 1, 0), 1), ("run", (0, 1, 0, 2), 0), ("run", (2, 1, 0, 1), 2), ("run", (2, 0, 1, 0)),
                      ("run", (2, 0, 1, 0), 1, 1), ("loose", (2, 0, 1, 0), 1), ("loose", ((0, 2), (1, 2), (2, 3))), ("run", None, 1), ("run", (), 0),
                      ("run", (2, 0, 1, 0), 10 ** 5000), ("run", (2, 0, 1, 0), None), *WRONG):
            self.assertIs(is_loose_paper(FOUR, (0, 2, 1, 0), value), False, value)
        self.assertIs(is_loose_paper(FOUR, (0, 2, 1, 0), ("run", (2, 1, 0, 1), 1)), True)
        self.assertIs(is_loose_paper(FOUR, (0, 2, 1, 0), ("run", (2, 0, 1, 0), 1)), True)
        self.assertIs(is_loose_paper(FOUR, (), ("loose", ())), True)
        self.assertIs(is_loose_paper(FOUR, (0, 1, 0), ("loose", ((0, 1), (1, 2)))), False)

    def test_letters_without_a_bond_have_no_runs(self):
        two = System.ring(2)
        self.assertIs(is_loose(two, (0, 1) * 20), True)
        self.assertEqual(loose_paper(two, (0, 1, 0)), ("loose", ((0, 1), (1, 2))))
        self.assertEqual(len(loose_of_length(two, 40)), 2)
        self.assertIs(is_loose(System.polygon(6), (0, 1, 0, 1, 0)), True)
        self.assertIs(is_loose(System.polygon(6), (0, 1, 0, 1, 0, 1)), False)
        self.assertIs(is_loose(System(2), (0, 1)), True)


class HeapsTest(Case):
    def test_heaps_and_readings_against_shortest_words(self):
        for system, word in told_words():
            if is_loose(system, word):
                self.assertEqual(heap_of(system, word), (word, ties_of(system, word)))
                told = readings(system, word)
                self.assertEqual(list(told), sorted(set(told)))
                self.assertEqual(sorted(tuple(word[at] for at in reading) for reading in told), list(shortest_words(system, word)))
                for reading in told[:20]:
                    self.assertEqual(sorted(reading), list(range(len(word))))
                    self.assertTrue(all(reading.index(low) < reading.index(high) for low, high in ties_of(system, word)))
            else:
                self.refuses("Refused", ("run",), heap_of, system, word)
                self.refuses("Refused", ("run",), readings, system, word)

    def test_words_need_not_be_normal(self):
        self.assertEqual(heap_of(FOUR, (1, 2, 2, 2, 0)), heap_of(FOUR, (1, 0, 2)))
        self.assertEqual(readings(FOUR, (1, 2, 0)), ((0, 1, 2), (0, 2, 1)))
        self.assertEqual((heap_of(RING, ()), readings(RING, ())), (((), ()), ((),)))

    def test_many_shortest_words(self):
        self.assertEqual(len(readings(TWICE, (0, 1) * 19 + (2, 3))), 780)
        wide = (0, 1) * 3 + (2, 3) * 3
        self.assertEqual(len(readings(TWICE, wide)), 924)
        self.assertEqual(len(readings(System(4), (0, 1, 2, 3))), 24)

    def test_more_than_2000_shortest_words(self):
        self.refuses("TooMany", 2000, shortest_words, TWICE, MANY)
        for act in (is_loose, loose_paper, heap_of, readings):
            self.refuses("TooMany", 2000, act, TWICE, MANY)
            self.refuses("TooMany", 2000, act, TWICE, (0,) + MANY[::-1])
            self.refuses("InvalidWord", None, act, TWICE, MANY + (4,))
            self.refuses("InvalidWord", None, act, TWICE, MANY * 3)
        for value in (None, ("loose", ()), ("run", MANY, 0)):
            self.refuses("TooMany", 2000, is_loose_paper, TWICE, MANY, value)
        # Whether the members of a length are loose is told whatever the number of their words.
        told = loose_of_length(TWICE, 16)
        self.assertEqual((len(told), len(of_length(TWICE, 16))), (64, 64))
        self.assertIn(normal(TWICE, MANY), told)
        mixed = System(4, ((0, 1, 0), (2, 3, 5)))
        wanted = [word for word in of_length(mixed, 17) if sum(letter > 1 for letter in word) < 5]
        self.assertEqual(loose_of_length(mixed, 17), tuple(wanted))
        self.refuses("TooMany", 2000, is_loose, mixed, (0, 1) * 7 + (2, 3, 2, 3))

    def test_errors_of_tuples_of_members(self):
        for system in (RING, System.polygon(0), TWICE):
            self.refuses("TooMany", 120, loose_members, system)
        self.refuses("TooMany", 120, loose_of_length, System(3, ((0, 1, 0), (0, 2, 0), (1, 2, 0))), 8)
        self.assertEqual(len(loose_of_length(RING, 40)), 6)
        self.assertEqual(loose_of_length(FOUR, 40), ())
        self.refuses("InvalidNumber", 41, loose_of_length, RING, 41)
        self.refuses("InvalidNumber", True, loose_of_length, RING, True)
        for value in WRONG:
            self.refuses("InvalidSystem", None, loose_members, value)
            self.refuses("InvalidSystem", None, loose_of_length, value, 41)

    def test_not_true_ones(self):
        self.assertEqual(run_starts(FOUR, (0, 2, 1, 0)), [])
        self.assertIs(is_loose(FOUR, (0, 2, 1, 0)), False)
        self.assertTrue(any(not is_loose(FOUR, product(FOUR, one, other)) for one, other in itertools.product(loose_members(FOUR), repeat=2)))


if __name__ == "__main__":
    unittest.main()
