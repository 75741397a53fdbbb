import itertools
import random
import unittest

from tests.reference import BIG, FOUR, RING, SMALL, SQUARE, TWENTY, Model
from tests.support import WRONG, Case
from underwords.groups.systems import System
from underwords.groups.words import is_likeness, likeness, normal

FREE = System(4, tuple((i, j, 0) for i, j in itertools.combinations(range(4), 2)))
TWO = System.ring(2)


def steps_from(model, word):
    """All words behind one exchange, taking away or putting in."""
    made = set()
    for at in range(len(word) + 1):
        made.update(word[:at] + (letter, letter) + word[at:] for letter in model.letters)
        if word[at:at + 1] == word[at + 1:at + 2] != ():
            made.add(word[:at] + word[at + 2:])
        for i, j in itertools.permutations(model.letters, 2):
            many = model.bonds[i, j]
            if many and word[at:at + many] == ((i, j) * 3)[:many]:
                made.add(word[:at] + ((j, i) * 3)[:many] + word[at + many:])
    return made


class LikenessTest(Case):
    def check(self, system, one, other):
        model = Model(system)
        kind, told = value = likeness(system, one, other)
        self.assertTrue(is_likeness(system, one, other, value), (system.bonds, one, other, value))
        if model.member(one) != model.member(other):
            self.assertEqual(kind, "unlike")
            self.assertNotEqual(model.leads(one, model.basis(told)), model.leads(other, model.basis(told)))
            return
        self.assertEqual((kind, told[0], told[-1]), ("path", one, other))
        self.assertTrue(len(told) <= 2000 and max(map(len, told)) <= 40)
        for word, following in zip(told, told[1:]):
            self.assertIn(following, steps_from(model, word))

    def test_both_kinds_for_short_words(self):
        for system in (System(1), System.rows(3), SQUARE, TWO, System.polygon(2)):
            words = [word for size in range(5) for word in itertools.product(range(system.letters), repeat=size)]
            for one, other in itertools.product(words, repeat=2):
                self.check(system, one, other)

    def test_words_of_chance(self):
        chance = random.Random(6)
        for system in SMALL + BIG:
            letters = range(system.letters)
            for _ in range(12):
                one = tuple(chance.choice(letters) for _ in range(chance.randint(0, 20)))
                other = tuple(chance.choice(letters) for _ in range(chance.randint(0, 20)))
                self.check(system, one, other)
                self.check(system, one, normal(system, one))
                self.check(system, one, one)
                alike = normal(system, one)
                while len(alike) < 19:
                    at, letter = chance.randint(0, len(alike)), chance.choice(letters)
                    alike = alike[:at] + (letter, letter) + alike[at:]
                self.check(system, one, alike)

    def test_long_paths(self):
        five = System(4, ((0, 1, 5), (1, 2, 3), (2, 3, 3)))
        for system in (System.rows(5), TWENTY, five, System(4, ((0, 1, 3), (1, 2, 4), (2, 3, 3))),
                       System(4, ((0, 3, 6), (1, 2, 0)))):
            least, most = (), ()
            while len(least) < 20:
                grown = [letter for letter in range(system.letters) if len(normal(system, least + (letter,))) > len(least)]
                if not grown:
                    break
                least = normal(system, least + (grown[len(least) % len(grown)],))
            rest = least
            while rest:
                letter = max(s for s in range(system.letters) if len(normal(system, (s,) + rest)) < len(rest))
                most, rest = most + (letter,), normal(system, (letter,) + rest)
            self.check(system, least, most)
            self.check(system, most[::-1], least[::-1])

    def test_at_most_20_letters(self):
        long, longer = (0, 1) * 10, (0, 1) * 10 + (0,)
        self.assertEqual(likeness(TWO, long, long), ("path", (long,)))
        self.assertEqual(likeness(TWO, long, ())[0], "unlike")
        for one, other in ((longer, longer), (longer, ()), ((), longer), ((0,) * 21, (0,)), (longer, (1,))):
            self.refuses("TooMany", 20, likeness, TWO, one, other)
        self.refuses("InvalidWord", None, likeness, TWO, longer, (2,))
        self.assertTrue(is_likeness(TWO, longer, longer, ("path", (longer,))))
        self.assertTrue(is_likeness(TWO, longer, (), ("unlike", 0)))

    def test_right_values(self):
        right = [
            (FOUR, (0, 1, 0), (1, 0, 1), ("path", ((0, 1, 0), (1, 0, 1)))),
            (FOUR, (0, 2), (2, 0), ("path", ((0, 2), (2, 0)))),
            (FOUR, (0, 2), (2, 0), ("path", ((0, 2), (1, 1, 0, 2), (1, 1, 2, 0), (2, 0)))),
            (FOUR, (0, 2), (0, 2), ("path", ((0, 2),))),
            (FOUR, (0, 2), (0, 2), ("path", ((0, 2), (2, 0), (0, 2)))),
            (FOUR, (0, 0), (), ("path", ((0, 0), ()))),
            (FOUR, (), (2, 2), ("path", ((), (2, 2)))),
            (SQUARE, (0, 1, 0, 1), (1, 0, 1, 0), ("path", ((0, 1, 0, 1), (1, 0, 1, 0)))),
            (System.polygon(6), (1,) + (0, 1) * 3, (1,) + (1, 0) * 3, ("path", ((1,) + (0, 1) * 3, (1,) + (1, 0) * 3))),
            (TWO, (0,) * 39 + (1,), (0,) * 37 + (1,), ("path", ((0,) * 39 + (1,), (0,) * 37 + (1,)))),
            (FOUR, (0,), (0, 1), ("unlike", 1)), (FOUR, (0,), (0, 1), ("unlike", 2)), (FOUR, (0,), (), ("unlike", 1)),
            (TWO, (), (), ("path", ((),) + ((0, 0), ()) * 999)),
            (TWO, (), (0, 0), ("path", ((), (0, 0)) * 1000)),
        ]
        for system, one, other, value in right:
            self.assertIs(is_likeness(system, one, other, value), True, value)

    def test_wrong_values(self):
        path = ((0, 1, 0), (1, 0, 1))
        wrong = [
            (FOUR, (0, 1, 0), (1, 0, 1), [
                ("path", path[::-1]), ("path", path[:1]), ("path", path[1:]), ("path", ()), ("path", list(path)),
                ["path", path], ("path", path, ()), ("path",), (path,), "path", ("Path", path), ("unlike", 0), ("unlike", 2),
                ("path", ((0, True, 0), (1, 0, 1))), ("path", ((False, 1, 0), (1, 0, 1))), ("path", path + path[1:]),
                ("path", ((0, 1, 0), [1, 0, 1])), ("path", ((0, 1, 0), (0, 1, 0), (1, 0, 1))), ("path", path + (None,)),
                ("path", ((0, 1, 0), (0, 1, 0, 3, 3), (0, 1, 0), (1, 0, 1)))]),
            (FOUR, (0, 2), (2, 0), [("path", ((0, 2), (1, 1, 2, 0), (2, 0))), ("path", ((0, 2), (1, 1, 0, 2), (2, 0)))]),
            (FOUR, (0,), (0, 1), [
                ("unlike", 0 - 1), ("unlike", 3), ("unlike", True), ("unlike", "1"), ("unlike", None), ("unlike", 10 ** 99),
                ("unlike",), ("unlike", 1, 1), ["unlike", 1], ("path", ((0,), (0, 1))), ("path", ((0,),))]),
            (FOUR, (0,), (), [("unlike", 2), ("path", ((0,), ()))]),
            (SQUARE, (0, 1, 0), (1, 0, 1), [("path", path)]),
            (TWO, (0, 1), (1, 0), [("path", ((0, 1), (1, 0)))]),
            (TWO, (), (), [("path", ((),) + ((0, 0), ()) * 1000), ("unlike", 0), ("path", ((), (0, 0)))]),
            (TWO, (), (0, 0), [("path", ((), (0, 0)) * 1001)]),
            (TWO, (0,) * 40, (0,) * 40, [("path", ((0,) * 40, (0,) * 42, (0,) * 40))]),
        ]
        for system, one, other, values in wrong:
            for value in values + WRONG:
                self.assertIs(is_likeness(system, one, other, value), False, value)

    def test_no_exchange_for_the_bond_0_or_beyond_the_end(self):
        self.assertFalse(is_likeness(TWO, (0, 1), (1, 0), ("path", ((0, 1), (1, 0)))))
        self.assertFalse(is_likeness(FREE, (), (), ("path", ((), ()))))
        for one, other in (((0, 1, 0), (1, 0, 0)), ((0, 1, 0), (1, 1, 1)), ((0, 0, 1), (1, 0, 1)), ((0, 1, 0, 2), (1, 0, 1, 1)),
                           ((0, 1), (1, 0)), ((2, 0, 1, 0), (2, 1, 0, 2)), ((0, 2, 0), (2, 0, 2)), ((0, 2), (2, 2))):
            self.assertFalse(is_likeness(FOUR, one, other, ("path", (one, other))))
        self.assertFalse(is_likeness(SQUARE, (0, 1, 0), (1, 0, 1), ("path", ((0, 1, 0), (1, 0, 1)))))
        self.assertFalse(is_likeness(RING, (0, 1, 0, 2), (1, 0, 1, 0), ("path", ((0, 1, 0, 2), (1, 0, 1, 0)))))


if __name__ == "__main__":
    unittest.main()
