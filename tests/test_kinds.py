import unittest
from copy import deepcopy

import samples
from tablefolk.errors import NoFolk, NoTable
from tablefolk.folks import back, rest
from tablefolk.kinds import kinds, middle
from tablefolk.parts import is_loose, parts

FLIPS = samples.turns_and_flips(3)
ASKS = [kinds, middle]


def kinds_by_their_words(table):
    every = range(len(table))
    found = {tuple(y for y in every if any(table[a][x] == table[y][a] for a in every)) for x in every}
    return [list(kind) for kind in sorted(found)]


def is_same_both_ways(table):
    return all(table[a][b] == table[b][a] for a in range(len(table)) for b in range(len(table)))


class Refusals(samples.Refusing):
    def test_no_table(self):
        for table in samples.NO_TABLES:
            for ask in ASKS:
                self.refused(NoTable, lambda: ask(table))

    def test_no_folk(self):
        for table, _ in samples.FLAWED:
            for ask in ASKS:
                self.refused(NoFolk, lambda: ask(table))


class Kinds(unittest.TestCase):
    def test_known_kinds(self):
        self.assertEqual(kinds([[0]]), [[0]])
        self.assertEqual(kinds(samples.circle(12)), [[k] for k in range(12)])
        self.assertEqual(kinds(FLIPS), [[0], [1, 2], [3, 4, 5]])
        self.assertEqual(kinds(samples.turns_and_flips(4)), [[0], [1, 3], [2], [4, 6], [5, 7]])
        self.assertEqual(kinds(samples.renamed(FLIPS, [5, 4, 0, 2, 3, 1])), [[0, 4], [1, 2, 3], [5]])

    def test_how_many_there_are(self):
        for table, many in (
            (samples.turns_and_flips(5), [1, 2, 2, 5]),
            (samples.turns_and_flips(6), [1, 1, 2, 2, 3, 3]),
            (samples.twisted(2), [1, 1, 2, 2, 2]),
            (samples.twisted(3), [1, 1, 2, 2, 3, 3]),
            (samples.even_swaps_of_four(), [1, 3, 4, 4]),
        ):
            for names in samples.name_orders(len(table)):
                self.assertEqual(sorted(map(len, kinds(samples.renamed(table, names)))), many)

    def test_each_folk(self):
        mixed = 0
        for table in samples.folks():
            found = kinds(table)
            self.assertEqual(found, kinds_by_their_words(table))
            self.assertEqual(sorted(sum(found, [])), list(range(len(table))))
            for kind in found:
                self.assertEqual(kind, sorted(kind))
                self.assertEqual(len(table) % len(kind), 0)
            self.assertEqual([kind[0] for kind in found], sorted(kind[0] for kind in found))
            self.assertEqual(max(map(len, found)) == 1, is_same_both_ways(table))
            mixed += not is_same_both_ways(table)
        self.assertEqual(mixed, 28)

    def test_a_kind_is_what_its_elements_turn_into(self):
        for table in samples.folks():
            for kind in kinds(table):
                for x in kind:
                    turned = {table[table[a][x]][back(table, a)] for a in range(len(table))}
                    self.assertEqual(sorted(turned), kind)


class Middle(unittest.TestCase):
    def test_known_middles(self):
        self.assertEqual(middle([[0]]), [0])
        self.assertEqual(middle(samples.circle(12)), list(range(12)))
        self.assertEqual(middle(FLIPS), [0])
        self.assertEqual(middle(samples.turns_and_flips(4)), [0, 2])
        self.assertEqual(middle(samples.turns_and_flips(6)), [0, 3])
        self.assertEqual(middle(samples.twisted(2)), [0, 2])
        self.assertEqual(middle(samples.renamed(samples.turns_and_flips(4), [6, 0, 1, 2, 3, 4, 5, 7])), [1, 6])
        self.assertEqual(middle(samples.renamed(FLIPS, [5, 4, 0, 2, 3, 1])), [5])

    def test_each_folk(self):
        for table in samples.folks():
            every = range(len(table))
            found = middle(table)
            self.assertEqual(found, [x for x in every if all(table[x][a] == table[a][x] for a in every)])
            self.assertEqual(found, [kind[0] for kind in kinds(table) if len(kind) == 1])

    def test_it_is_a_loose_part(self):
        for table in samples.plain_folks():
            found = middle(table)
            self.assertIn(rest(table), found)
            self.assertIn(found, parts(table))
            self.assertTrue(is_loose(table, found))


class NothingIsKept(unittest.TestCase):
    def test_what_is_handed_in_stays_as_it_was(self):
        for table in samples.folks():
            before = deepcopy(table)
            for ask in ASKS:
                ask(table)
            self.assertEqual(table, before)

    def test_no_two_lists_are_one(self):
        for table in samples.folks():
            told = [ask(table) for ask in ASKS + ASKS]
            self.assertTrue(samples.no_two_are_one(table, *told))


if __name__ == "__main__":
    unittest.main()
