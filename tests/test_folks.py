import unittest
from copy import deepcopy
from itertools import product

import samples
from tablefolk.errors import NoElement, NoFolk, NoTable
from tablefolk.folks import back, done, flaw, order, rest

FORTY = 10**39 + 7
OUTSIDE = [-FORTY, -13, -2, -1, 12, 13, FORTY]


def is_rest(table, element):
    return all(table[element][a] == a == table[a][element] for a in range(len(table)))


def flaw_by_its_words(table):
    every = range(len(table))
    for a, b, c in product(every, repeat=3):
        if table[table[a][b]][c] != table[a][table[b][c]]:
            return ("three", a, b, c)
    rests = [a for a in every if is_rest(table, a)]
    if not rests:
        return ("rest",)
    for a in every:
        if not any(table[a][b] == rests[0] == table[b][a] for b in every):
            return ("back", a)
    return None


def asks(table, element=0):
    """Every function that asks for a folk, ready to be called."""
    return [
        lambda: rest(table),
        lambda: back(table, element),
        lambda: order(table, element),
        lambda: done(table, element, 3),
    ]


class Tables(samples.Refusing):
    def test_no_table_is_refused_by_flaw(self):
        for table in samples.NO_TABLES:
            self.refused(NoTable, lambda: flaw(table))

    def test_no_table_is_refused_where_a_folk_is_asked_for(self):
        for table in samples.NO_TABLES:
            for element in (0, -1, 99):
                for call in asks(table, element):
                    self.refused(NoTable, call)

    def test_a_table_with_a_flaw_is_refused_ahead_of_its_element(self):
        for table, _ in samples.FLAWED:
            for element in (0, -1, 99):
                for call in asks(table, element):
                    self.refused(NoFolk, call)

    def test_no_table_goes_ahead_of_no_folk(self):
        for table in ([[1, 0], [0, 5]], [[0, 0], [0]], [[0] * 13 for _ in range(13)]):
            self.refused(NoTable, lambda: rest(table))

    def test_each_cell_is_looked_at(self):
        for size in (1, 2, 5, 12):
            for a, b in product(range(size), repeat=2):
                for number in (-1, size):
                    table = samples.circle(size)
                    table[a][b] = number
                    self.refused(NoTable, lambda: flaw(table))

    def test_each_row_is_measured(self):
        for size in (1, 2, 5, 12):
            for a in range(size):
                short, long = samples.circle(size), samples.circle(size)
                short[a].pop()
                long[a].append(0)
                self.refused(NoTable, lambda: flaw(short))
                self.refused(NoTable, lambda: flaw(long))

    def test_one_row_and_twelve_rows(self):
        self.assertIsNone(flaw([[0]]))
        self.assertEqual(rest([[0]]), 0)
        self.assertIsNone(flaw(samples.circle(12)))
        self.assertEqual(flaw([[0] * 12 for _ in range(12)]), ("rest",))


class Flaws(unittest.TestCase):
    def test_known_flaws(self):
        for table, wanted in samples.FLAWED:
            self.assertEqual(flaw(table), wanted)

    def test_a_folk_has_none(self):
        for table in samples.folks():
            self.assertIsNone(flaw(table))

    def test_every_small_table(self):
        for size in (1, 2, 3):
            for table in samples.all_tables(size):
                self.assertEqual(flaw(table), flaw_by_its_words(table), table)

    def test_one_cell_off(self):
        for table in samples.folks():
            size = len(table)
            for a, b in ((0, 0), (size - 1, size - 1), (size // 2, size - 1)):
                off = deepcopy(table)
                off[a][b] = (off[a][b] + 1) % size
                self.assertEqual(flaw(off), flaw_by_its_words(off), off)

    def test_the_least_element_without_a_back(self):
        for size in (4, 6, 8, 9, 12):
            times = [[a * b % size for b in range(size)] for a in range(size)]
            for names in samples.name_orders(size):
                table = samples.renamed(times, names)
                found = flaw(table)
                self.assertEqual(found, flaw_by_its_words(table))
                self.assertEqual(found[0], "back")

    def test_the_answer_is_a_tuple(self):
        for table, _ in samples.FLAWED:
            self.assertIs(type(flaw(table)), tuple)


class RestsAndBacks(unittest.TestCase):
    def test_rest(self):
        self.assertEqual(rest([[1, 0], [0, 1]]), 1)
        seen = set()
        for table in samples.folks():
            found = rest(table)
            seen.add(found)
            self.assertTrue(is_rest(table, found))
        self.assertGreater(len(seen), 5)

    def test_back(self):
        self.assertEqual([back(samples.circle(5), a) for a in range(5)], [0, 4, 3, 2, 1])
        for table in samples.folks():
            still = rest(table)
            for a in range(len(table)):
                other = back(table, a)
                self.assertEqual((table[a][other], table[other][a]), (still, still))

    def test_no_element(self):
        for table in samples.folks():
            for element in OUTSIDE + [len(table)]:
                if 0 <= element < len(table):
                    continue
                for call in asks(table, element)[1:]:
                    with self.assertRaises(NoElement):
                        call()


class Times(unittest.TestCase):
    def test_order(self):
        self.assertEqual([order(samples.circle(6), a) for a in range(6)], [1, 6, 3, 2, 3, 6])
        for table in samples.folks():
            for a in range(len(table)):
                made, times = a, 1
                while not is_rest(table, made):
                    made, times = table[made][a], times + 1
                self.assertEqual(order(table, a), times)
                self.assertEqual(len(table) % times, 0)

    def test_nought_times_is_the_rest(self):
        for table in samples.folks():
            for a in range(len(table)):
                self.assertEqual(done(table, a, 0), rest(table))
                self.assertEqual(done(table, a, 1), a)

    def test_once_more_and_below_nought(self):
        for table in samples.plain_folks():
            table = samples.renamed(table, samples.name_orders(len(table))[-1])
            for a in range(len(table)):
                other = back(table, a)
                for times in range(-14, 15):
                    self.assertEqual(done(table, a, times + 1), table[done(table, a, times)][a])
                    self.assertEqual(done(table, a, -times), done(table, other, times))

    def test_times_of_forty_figures(self):
        for size in range(1, 13):
            table = samples.circle(size)
            for a in range(size):
                for times in (FORTY, -FORTY, 10**40 - 1, 1 - 10**40, 10**45, -(10**45)):
                    self.assertEqual(done(table, a, times), a * times % size)

    def test_times_of_forty_figures_where_the_rest_is_not_nought(self):
        for table in samples.folks():
            for a in range(len(table)):
                often = order(table, a) * FORTY
                for times in (often, -often):
                    self.assertEqual(done(table, a, times), rest(table))
                    self.assertEqual(done(table, a, times + 1), a)
                    self.assertEqual(done(table, a, times - 1), back(table, a))

    def test_no_element_whatever_the_times(self):
        for times in (0, 1, -1, FORTY, -FORTY):
            for element in OUTSIDE:
                with self.assertRaises(NoElement):
                    done(samples.circle(12), element, times)


class NothingIsKept(unittest.TestCase):
    def test_the_table_stays_as_it_was(self):
        for table in [[[0, 0], [0, 0]]] + samples.folks():
            before = deepcopy(table)
            flaw(table)
            if flaw(table) is None:
                for call in asks(table):
                    call()
            self.assertEqual(table, before)

    def test_a_changed_table_is_told_anew(self):
        table = samples.circle(2)
        self.assertEqual((flaw(table), rest(table), back(table, 1), done(table, 1, 2)), (None, 0, 1, 0))
        table[0][0], table[0][1], table[1][0], table[1][1] = 1, 0, 0, 1
        self.assertEqual((flaw(table), rest(table), order(table, 0), done(table, 0, 2)), (None, 1, 2, 1))
        table[1][1] = 0
        self.assertEqual(flaw(table), ("three", 0, 0, 1))
        with self.assertRaises(NoFolk):
            rest(table)
        table.append([0, 0])
        with self.assertRaises(NoTable):
            flaw(table)


if __name__ == "__main__":
    unittest.main()
