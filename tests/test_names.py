import unittest
from copy import deepcopy
from itertools import permutations, product

import samples
from tablefolk.errors import NoFolk, NoTable, TooLarge
from tablefolk.folks import flaw, order
from tablefolk.names import beside, renaming

FLIPS = samples.turns_and_flips(3)
ASKS = [renaming, beside]
FLAWED = [table for table, _ in samples.FLAWED]
# The one of twelve would bring TooLarge, if nothing went ahead of it.
RIGHT = [[[0]], samples.circle(2), FLIPS, samples.circle(12)]


class Refusals(samples.Refusing):
    def test_no_table_in_either_place(self):
        for ask, wrong, right in product(ASKS, samples.NO_TABLES, RIGHT):
            self.refused(NoTable, lambda: ask(wrong, right))
            self.refused(NoTable, lambda: ask(right, wrong))

    def test_no_folk_in_either_place(self):
        for ask, wrong, right in product(ASKS, FLAWED, RIGHT):
            self.refused(NoFolk, lambda: ask(wrong, right))
            self.refused(NoFolk, lambda: ask(right, wrong))

    def test_the_first_goes_ahead_of_the_second(self):
        for ask, no_table, no_folk in product(ASKS, samples.NO_TABLES, FLAWED):
            self.refused(NoTable, lambda: ask(no_table, no_folk))
            self.refused(NoFolk, lambda: ask(no_folk, no_table))

    def test_both_are_wrong_alike(self):
        for ask in ASKS:
            for wrong in samples.NO_TABLES:
                self.refused(NoTable, lambda: ask(wrong, wrong))
            for wrong in FLAWED:
                self.refused(NoFolk, lambda: ask(wrong, wrong))

    def test_too_large_comes_last(self):
        large = samples.circle(12)
        self.refused(TooLarge, lambda: beside(large, large))
        self.refused(NoFolk, lambda: beside(large, FLAWED[-1]))
        self.refused(NoFolk, lambda: beside(FLAWED[-1], large))
        self.refused(NoTable, lambda: beside(large, samples.circle(13)))
        self.refused(NoTable, lambda: beside(samples.circle(13), large))
        self.refused(NoTable, lambda: beside([[0]], samples.circle(13)))


class Renaming(unittest.TestCase):
    def renames(self, one, other, found):
        self.assertIs(type(found), list)
        self.assertEqual(sorted(found), list(range(len(other))))
        self.assertEqual(samples.renamed(one, found), other)

    def test_the_one_way_there_is(self):
        self.assertEqual(renaming([[0]], [[0]]), [0])
        self.assertEqual(renaming([[0, 1], [1, 0]], [[0, 1], [1, 0]]), [0, 1])
        self.assertEqual(renaming([[0, 1], [1, 0]], [[1, 0], [0, 1]]), [1, 0])
        self.assertEqual(renaming([[1, 0], [0, 1]], [[0, 1], [1, 0]]), [1, 0])

    def test_it_goes_from_the_one_to_the_other(self):
        # The rest of the one is 1, of the other 2: told the other way about, the list would have 1 at place 2.
        one = samples.renamed(samples.circle(3), [1, 2, 0])
        other = samples.renamed(samples.circle(3), [2, 0, 1])
        self.assertEqual(renaming(one, other)[1], 2)
        self.renames(one, other, renaming(one, other))

    def test_each_folk_to_itself_otherwise_named(self):
        for table in samples.plain_folks():
            named = [samples.renamed(table, names) for names in samples.name_orders(len(table))]
            for one, other in product(named, repeat=2):
                self.renames(one, other, renaming(one, other))

    def test_all_names_of_small_folks(self):
        for table in samples.plain_folks():
            if len(table) > 6:
                continue
            for names in permutations(range(len(table))):
                other = samples.renamed(table, names)
                self.renames(table, other, renaming(table, other))

    def test_many_names_of_each_folk(self):
        for table in samples.plain_folks():
            for step in range(1, 101):
                names = sorted(range(len(table)), key=lambda k: (k + 1) * step % 101)
                other = samples.renamed(table, names)
                self.renames(table, other, renaming(table, other))
                self.renames(other, table, renaming(other, table))

    def test_a_folk_to_itself(self):
        for table in samples.folks():
            self.renames(table, table, renaming(table, table))

    def test_none_where_they_are_not_alike(self):
        as_many = 0
        for (place, one), (other_place, other) in product(enumerate(samples.plain_folks()), repeat=2):
            if place == other_place:
                continue
            as_many += len(one) == len(other)
            for names in samples.name_orders(len(one)):
                self.assertIsNone(renaming(samples.renamed(one, names), other))
        self.assertEqual(as_many, 48)

    def test_as_many_elements_but_not_alike(self):
        for one, other in (
            (samples.circle(4), samples.pairs(samples.circle(2), samples.circle(2))),
            (samples.turns_and_flips(4), samples.twisted(2)),
            (samples.turns_and_flips(6), samples.twisted(3)),
            (samples.even_swaps_of_four(), samples.turns_and_flips(6)),
        ):
            self.assertEqual(len(one), len(other))
            self.assertIsNone(renaming(one, other))
            self.assertIsNone(renaming(other, one))

    def test_what_is_otherwise_made_is_alike(self):
        backwards = [[FLIPS[b][a] for b in range(6)] for a in range(6)]
        self.renames(FLIPS, backwards, renaming(FLIPS, backwards))
        times = samples.table_of([1, 2, 3, 4], lambda a, b: a * b % 5)
        self.renames(samples.circle(4), times, renaming(samples.circle(4), times))
        swaps = list(permutations(range(3)))
        made = samples.table_of(swaps, lambda x, y: tuple(x[y[k]] for k in range(3)))
        self.renames(FLIPS, made, renaming(FLIPS, made))


class Beside(samples.Refusing):
    def test_known_pairs(self):
        self.assertEqual(beside([[0]], [[0]]), [[0]])
        two = samples.circle(2)
        self.assertEqual(beside(two, two), [[0, 1, 2, 3], [1, 0, 3, 2], [2, 3, 0, 1], [3, 2, 1, 0]])
        self.assertEqual(
            beside(two, samples.circle(3)),
            [
                [0, 1, 2, 3, 4, 5],
                [1, 0, 3, 2, 5, 4],
                [2, 3, 4, 5, 0, 1],
                [3, 2, 5, 4, 1, 0],
                [4, 5, 0, 1, 2, 3],
                [5, 4, 1, 0, 3, 2],
            ],
        )

    def test_one_of_one_element_on_either_side(self):
        for table in samples.folks():
            self.assertEqual(beside(table, [[0]]), table)
            self.assertEqual(beside([[0]], table), table)

    def test_the_numbers_of_the_pairs(self):
        twelve = 0
        for one, other in product(samples.folks(), repeat=2):
            many, others = len(one), len(other)
            if many * others > 12:
                continue
            twelve += many * others == 12
            found = beside(one, other)
            self.assertEqual(len(found), many * others)
            for a, c in product(range(many), repeat=2):
                for b, d in product(range(others), repeat=2):
                    self.assertEqual(found[a + b * many][c + d * many], one[a][c] + other[b][d] * many)
        self.assertGreater(twelve, 100)

    def test_it_is_a_folk(self):
        for one, other in product(samples.plain_folks(), repeat=2):
            if len(one) * len(other) <= 12:
                self.assertIsNone(flaw(beside(one, other)))

    def test_pairs_and_their_likes(self):
        two, three, four, six = map(samples.circle, (2, 3, 4, 6))
        self.assertIsNotNone(renaming(beside(three, four), samples.circle(12)))
        self.assertIsNotNone(renaming(beside(two, FLIPS), samples.turns_and_flips(6)))
        self.assertIsNotNone(renaming(beside(two, three), beside(three, two)))
        self.assertIsNone(renaming(beside(two, six), samples.circle(12)))
        self.assertEqual(sorted(order(beside(two, two), a) for a in range(4)), [1, 2, 2, 2])

    def test_more_than_twelve_are_too_large(self):
        for one, other in product(range(1, 13), repeat=2):
            if one * other > 12:
                self.refused(TooLarge, lambda: beside(samples.circle(one), samples.circle(other)))
            else:
                self.assertEqual(len(beside(samples.circle(one), samples.circle(other))), one * other)
        self.refused(TooLarge, lambda: beside(samples.circle(7), samples.circle(2)))
        self.refused(TooLarge, lambda: beside(FLIPS, samples.circle(3)))


class NothingIsKept(samples.Refusing):
    def test_what_is_handed_in_stays_as_it_was(self):
        for one, other in product(samples.plain_folks(), repeat=2):
            before = deepcopy((one, other))
            renaming(one, other)
            if len(one) * len(other) <= 12:
                beside(one, other)
            self.assertEqual((one, other), before)

    def test_no_two_lists_are_one(self):
        for table in samples.folks():
            other = samples.renamed(table, samples.name_orders(len(table))[1])
            told = [renaming(table, other), renaming(table, other), renaming(table, table)]
            told += [beside(table, [[0]]), beside([[0]], table), beside([[0]], table)]
            self.assertTrue(samples.no_two_are_one(table, other, *told))
        for table in (samples.circle(2), samples.circle(3)):
            self.assertTrue(samples.no_two_are_one(table, beside(table, table), beside(table, table)))


if __name__ == "__main__":
    unittest.main()
