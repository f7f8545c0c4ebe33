"""Point 113: rows of tries, one of which rings, and shields."""

import random
import unittest
from itertools import combinations

from allcalls.boxes import Box, full, plain
from allcalls.breaks import fewest_breaking
from allcalls.errors import BadBox, BadLoad, BadMost, BadNumber
from allcalls.tries import are_tries, is_shield, shield, tries
from tests.helpers import (any_values, anew, ascending_dict, count_load, every_way, listed, pairs_of, refuse, some_box,
                           too_many, untrue)
from tests.test_trials import plain_mutes

A = ((0, 0), (1, 0))
B = ((0, 1), (1, 1))
C = ((0, 2), (1, 2))
EMPTY = Box(2, 1, ())
LOADS = [(3, 0), [1], (-1,), 1, (100,)] + untrue((1,))


def rows_box(rows):
    """The box of three sides and five tracks in which the tracks of each side are joined as told, pair by pair."""
    return Box(3, 5, tuple(sorted(((one, track), (two, int(other))) for one, two in rows
                                  for track, told in enumerate(rows[one, two]) for other in told)))


# Boxes with just so many ways for the load (2, 1, 1).
JUST = {
    5000: {(0, 1): ("124", "034", "01234", "024", "1"),
           (0, 2): ("01234", "0134", "3", "02", "234"),
           (1, 2): ("0123", "0134", "14", "134", "023")},
    5001: {(0, 1): ("0134", "0123", "0123", "0134", "2"),
           (0, 2): ("01234", "14", "2", "24", "0123"),
           (1, 2): ("024", "2", "01", "023", "0124")},
}


def is_plain_row(mutes, thing):
    return all(any(not set(way) & set(lot) for way in thing) for lot in mutes)


def fewest_tries(mutes, ways):
    """The least number of ways that are a row of tries; None if all together are none."""
    if not is_plain_row(mutes, ways):
        return None
    for many in range(len(ways) + 1):
        if any(is_plain_row(mutes, some) for some in combinations(ways, many)):
            return many
    return None


def is_plain_shield(mutes, ways, number, thing):
    """Whether a dict from tuples of ways to pairs is a shield, by the document's words."""
    if () not in thing:
        return False
    for key, (word, what) in thing.items():
        if len(key) > number or list(key) != sorted(set(key)) or not set(key) <= set(ways):
            return False
        lots = [what] if word == "mutes" else list(what)
        for lot in lots:
            if lot not in mutes or not all(set(way) & set(lot) for way in key):
                return False
        if word == "mutes":
            if len(key) < number:
                for way in ways:
                    if not set(way) & set(what) and tuple(sorted(key + (way,))) not in thing:
                        return False
        else:
            if not all(1 <= worth <= 999 for worth in what.values()):
                return False
            for way in ways:
                borne = sum(worth for lot, worth in what.items() if not set(way) & set(lot))
                if borne * (number - len(key)) >= sum(what.values()):
                    return False
    return True


def some_quests(seed, many):
    rnd = random.Random(seed)
    done = 0
    while done < many:
        box = some_box(rnd, rnd.randint(2, 3), rnd.randint(1, 4), 9)
        load = count_load(box.sides, rnd.choice(every_way(box)))
        if rnd.random() < 0.1:
            load = tuple(rnd.randint(0, 2) for _ in pairs_of(box.sides))
        ways = [way for way in every_way(box) if count_load(box.sides, way) == load]
        most = rnd.randint(0, 3)
        mutes = plain_mutes(box, (load,), most)
        if len(ways) <= 12 and len(mutes) <= 140:
            done += 1
            yield rnd, box, load, most, mutes, ways


class Tries(unittest.TestCase):
    def test_some_tries(self):
        told = {}
        for rnd, box, load, most, mutes, ways in some_quests(113, 150):
            row = tries(box, load, most)
            fewest = fewest_tries(mutes, ways)
            told[fewest] = told.get(fewest, 0) + 1
            lot = fewest_breaking(box, load)
            self.assertEqual(row is None, lot is not None and len(lot) <= most)
            if row is None:
                self.assertIsNone(fewest)
                self.assertIs(are_tries(box, load, most, ways), False)
            else:
                self.assertEqual(len(row), fewest)
                self.assertTrue(set(row) <= set(ways) and is_plain_row(mutes, row))
                self.assertIs(are_tries(box, load, most, row), True)
                self.assertIs(are_tries(box, load, most, tuple(row + row)), True)
                if any(load):
                    self.assertGreaterEqual(fewest, most + 1)
                    apart = any(all(not set(one) & set(two) for one, two in combinations(some, 2))
                                for some in combinations(ways, most + 1))
                    self.assertEqual(fewest == most + 1, apart)
            for _ in range(4):
                thing = [rnd.choice(ways) for _ in range(rnd.randint(0, 4))] if ways else []
                self.assertIs(are_tries(box, load, most, thing), is_plain_row(mutes, thing))
        self.assertGreater(min(told[key] for key in (None, 1, 2, 3)), 5)

    def test_some_shields(self):
        both, words = [0, 0], {"mutes": 0, "numbers": 0}
        for rnd, box, load, most, mutes, ways in some_quests(114, 150):
            fewest = fewest_tries(mutes, ways)
            for number in (0, 1, 2, 3, 4):
                held = shield(box, load, most, number)
                both[held is None] += 1
                self.assertEqual(held is None, fewest is not None and fewest <= number)
                if held is not None:
                    ascending_dict(self, held)
                    self.assertTrue(is_plain_shield(mutes, ways, number, held))
                    self.assertIs(is_shield(box, load, most, number, held), True)
                    for word, what in held.values():
                        words[word] += 1
                        if word == "numbers":
                            ascending_dict(self, what)
                    self.others(rnd, (box, load, most, number), mutes, ways, held)
        self.assertGreater(min(both), 100)
        self.assertGreater(min(words.values()), 5)

    def others(self, rnd, told, mutes, ways, held):
        for _ in range(3):
            thing = dict(held)
            key = rnd.choice(list(held))
            if rnd.random() < 0.3:
                del thing[key]
            elif held[key][0] == "numbers" and rnd.random() < 0.7:
                numbers = dict(held[key][1])
                lot = rnd.choice(list(numbers))
                numbers[lot] = max(1, numbers[lot] + rnd.choice([-1, 1, 7]))
                thing[key] = ("numbers", numbers)
            else:
                thing[key] = ("mutes", rnd.choice(mutes))
            if rnd.random() < 0.2 and ways:
                thing[(rnd.choice(ways),)] = ("mutes", rnd.choice(mutes))
            self.assertIs(is_shield(*told, thing), is_plain_shield(mutes, ways, told[3], thing))

    def test_shields_of_mutes_alone(self):
        # Whoever has mutes for each key needs no numbers.
        for rnd, box, load, most, mutes, ways in some_quests(115, 80):
            fewest = fewest_tries(mutes, ways)
            number = 3 if fewest is None else min(3, fewest - 1)
            thing, rest = {}, [()]
            while rest:
                key = rest.pop()
                lots = [lot for lot in mutes if all(set(way) & set(lot) for way in key)]
                thing[key] = ("mutes", rnd.choice(lots))
                if len(key) < number:
                    rest += [tuple(sorted(key + (way,))) for way in ways if not set(way) & set(thing[key][1])]
            self.assertIs(is_shield(box, load, most, number, thing), True)
            self.assertTrue(is_plain_shield(mutes, ways, number, thing))

    def test_tries_that_are_not_apart(self):
        # More than most + 1 are needed here, and whoever takes the way that has none of the most mutes takes too many.
        for text, tracks, most, fewest in (("00 01 02 10 11 12 20", 3, 3, 5), ("01 12 21 30 33", 4, 2, 4),
                                           ("11 13 20 22 32", 4, 2, 4)):
            box = Box(2, tracks, tuple(((0, int(word[0])), (1, int(word[1]))) for word in text.split()))
            ways = [way for way in every_way(box) if len(way) == 2]
            self.assertEqual(fewest_tries(plain_mutes(box, ((2,),), most), ways), fewest)
            self.assertEqual(len(tries(box, (2,), most)), fewest)
            self.assertIsNone(shield(box, (2,), most, fewest))
            held = shield(box, (2,), most, fewest - 1)
            self.assertTrue(is_plain_shield(plain_mutes(box, ((2,),), most), ways, fewest - 1, held))
            self.assertIs(is_shield(box, (2,), most, fewest - 1, held), True)

    def test_example(self):
        box, load = plain(2, 3), (2,)
        self.assertEqual(len(tries(box, load, 1)), 3)
        self.assertIs(are_tries(box, load, 1, [(A, B), (A, C), (B, C)]), True)
        self.assertIs(are_tries(box, load, 1, [(A, B), (A, C), (A, C)]), False)
        right = {(): ("numbers", {(A,): 1, (B,): 1, (C,): 1})}
        self.assertIs(is_shield(box, load, 1, 2, right), True)
        self.assertIs(is_shield(box, load, 1, 3, right), False)
        self.assertIs(is_shield(box, load, 1, 2, shield(box, load, 1, 2)), True)
        self.assertIsNone(shield(box, load, 1, 3))
        self.assertIsNone(tries(box, load, 2))
        for number in (0, 1, 50, 99):
            self.assertIs(is_shield(box, load, 2, number, shield(box, load, 2, number)), True)
        self.assertEqual(len(tries(box, load, 0)), 1)
        anew(self, tries, box, load, 1)
        anew(self, shield, box, load, 1, 2)

    def test_zeros_and_loads_without_ways(self):
        for box in (plain(2, 2), EMPTY):
            for most in (0, 3):
                self.assertEqual(tries(box, (0,), most), [()])
                self.assertIs(are_tries(box, (0,), most, [()]), True)
                self.assertIs(are_tries(box, (0,), most, []), False)
                self.assertIs(is_shield(box, (0,), most, 0, shield(box, (0,), most, 0)), True)
                self.assertIs(is_shield(box, (0,), most, 0, {(): ("mutes", ())}), True)
                self.assertIs(is_shield(box, (0,), most, 1, {(): ("mutes", ())}), False)
                self.assertIsNone(shield(box, (0,), most, 1))
                self.assertIsNone(tries(box, (3,), most))
                self.assertIs(are_tries(box, (3,), most, []), False)
                self.assertIs(is_shield(box, (3,), most, 99, {(): ("mutes", ())}), True)
                self.assertIs(is_shield(box, (3,), most, 99, shield(box, (3,), most, 99)), True)
                self.assertIs(is_shield(box, (3,), most, 99, {(): ("numbers", {(): 1})}), True)
        self.assertIs(is_shield(plain(2, 2), (0,), 0, 0, {(): ("numbers", {(): 1})}), True)

    def test_are_tries(self):
        box, load = plain(2, 3), (2,)
        right = [(A, B), (A, C), (B, C)]
        self.assertIs(are_tries(box, load, 1, right), True)
        self.assertIs(are_tries(box, load, 1, right[::-1] + right[:1]), True)
        wrong = [[], right[:2], right + [None], right + [()], right + [(A,)], right + [(A, B, C)], right + [(B, A)],
                 {way: True for way in right}, right[0], [right], [[A, B], (A, C), (B, C)], right + [7]]
        for thing in wrong + untrue(right) + [row for row in listed(right)] + any_values():
            self.assertIs(are_tries(box, load, 1, thing), False, thing)
        self.assertIs(are_tries(box, load, 1, tuple(right)), True)

    def test_is_shield(self):
        box, load = plain(2, 3), (2,)
        right = {(): ("mutes", (A,)), ((B, C),): ("numbers", {(B,): 1, (C,): 1})}
        self.assertIs(is_shield(box, load, 1, 2, right), True)
        self.assertIs(is_shield(box, load, 1, 2, dict(reversed(list(right.items())))), True)
        self.assertIs(is_shield(box, load, 1, 2, {(): ("numbers", {(C,): 999, (B,): 999, (A,): 999})}), True)
        one = {(): ("numbers", {(A,): 1, (B,): 1})}
        self.assertIs(is_shield(box, load, 1, 1, {(): ("mutes", (A,)), ((B, C),): ("mutes", (B,))}), True)
        self.assertIs(is_shield(box, load, 1, 1, one), True)
        numbers = {(A,): 1, (B,): 1, (C,): 1}
        wrong = [
            {(): ("numbers", {**numbers, (): 0})}, {(): ("numbers", {**numbers, (): -1})},
            {(): ("mutes", (A,)), ((B, C),): ("mutes", (B,)), ((A, C), (B, C)): ("numbers", {})},
            {}, {(): ("mutes", (A,))}, one, {(): ("numbers", {})}, {(): ("numbers", {(A,): 0, (B,): 0, (C,): 0})},
            {(): ("numbers", {(A,): 1000, (B,): 1000, (C,): 1000})}, {(): ("numbers", [((A,), 1)])}, list(right.items()),
            {(): ("numbers", {(A, B): 1, (C,): 1})}, {(): ("mutes", (A, B)), ((B, C),): right[((B, C),)]}, [right],
            {(): ("mutes", (A,)), ((B, C),): ("numbers", {(A,): 1, (C,): 1, (B,): 1})}, {**right, (A, B): right[()]},
            {(): ("mutes", (A,)), ((B, C),): ("mutes", (A,))}, {**right, ((A,),): ("mutes", (A,))}, {(): ("mutes",)},
            {**right, ((A, B), (A, C), (B, C)): ("mutes", (A,))}, {**right, ((B, C), (A, B)): ("mutes", (B,))},
            {**right, ((B, C), (B, C)): ("mutes", (B,))}, {**right, 0: right[()]}, {(): ("lots", (A,))}, {(): None},
            {(): ("mutes", (A,), 0), ((B, C),): right[((B, C),)]}, {((B, C),): right[((B, C),)]}, {(): ("mutes", A)}]
        for thing in wrong + untrue(right) + listed(right) + any_values():
            self.assertIs(is_shield(box, load, 1, 2, thing), False, thing)
        # A key that has as many ways as the number needs no other one.
        full_key = {(): ("mutes", (A,)), ((B, C),): ("mutes", (B,)), ((A, C), (B, C)): ("mutes", (C,))}
        self.assertIs(is_shield(box, load, 1, 2, full_key), True)
        self.assertIs(is_shield(box, load, 1, 3, full_key), False)
        for number in (0, 1):
            self.assertIs(is_shield(box, load, 1, number, full_key), False)


class Refused(unittest.TestCase):
    def test_refusals(self):
        box = plain(2, 2)
        refuse(self, tries, [box, (1,), 3], [BadBox, BadLoad, BadMost], {1: LOADS, 2: [4, "1"]})
        refuse(self, are_tries, [box, (1,), 0, None], [BadBox, BadLoad, BadMost, None], {1: LOADS, 2: [4, "1"]})
        for number in (0, 99):
            refuse(self, shield, [box, (1,), 1, number], [BadBox, BadLoad, BadMost, BadNumber],
                   {1: LOADS, 2: [4, "1"], 3: [100, "1"]})
            refuse(self, is_shield, [box, (1,), 1, number, None], [BadBox, BadLoad, BadMost, BadNumber, None],
                   {1: LOADS, 2: [4, "1"], 3: [100, "1"]})

    def check(self, most, box, load, wide, first):
        every = [(tries, ()), (are_tries, (None,)), (shield, (0,)), (is_shield, (0, None))]
        for function, rest in every:
            if wide:
                too_many(self, 5000, function, box, load, most, *rest)
                with self.assertRaises(BadMost):
                    function(box, load, None, *rest)
            elif function in (are_tries, is_shield):
                self.assertIs(function(box, load, most, *rest), False)
            elif function == tries:
                row = tries(box, load, most)
                self.assertEqual(len(row) if row else None, first)
            else:
                self.assertIs(is_shield(box, load, most, 0, shield(box, load, most, 0)), True)
        if wide:
            with self.assertRaises(BadNumber):
                shield(box, load, most, 100)
            with self.assertRaises(BadNumber):
                is_shield(box, load, most, -1, None)

    def test_too_many_mutes(self):
        # The numbers of mutes that are nearest to 5000, on both sides.
        for many, most, number in ((31, 3, 4992), (32, 3, 5489)):
            box = Box(3, 6, full(2, 6).switches[:many] + (((1, 0), (2, 0)), ((1, 1), (2, 1))))
            self.assertEqual(len([0 for size in range(4) for _ in combinations(range(many), size)]), number)
            self.check(most, box, (1, 0, 0), number > 5000, 4)
            self.check(2, box, (1, 0, 0), False, 3)

    def test_too_many_ways(self):
        for many, rows in JUST.items():
            box = rows_box(rows)
            between = {pair: [wire for wire in box.switches if (wire[0][0], wire[1][0]) == pair]
                       for pair in pairs_of(3)}
            found = 0
            for one, two in combinations(between[0, 1], 2):
                for three in between[0, 2]:
                    pins = set(one + two + three)
                    if len(pins) == 6:
                        found += sum(len(pins | set(four)) == 8 for four in between[1, 2])
            self.assertEqual(found, many)
            for most in (0, 1):
                self.check(most, box, (2, 1, 1), many > 5000, most + 1)
            # Only ways for this load count.
            self.check(0, box, (1, 1, 1), False, 1)
        self.assertEqual(len(tries(full(2, 6), (1,), 2)), 3)


if __name__ == "__main__":
    unittest.main()
