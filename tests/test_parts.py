import unittest
from copy import deepcopy
from itertools import combinations

import samples
from tablefolk.errors import FolkError, NoElement, NoFolk, NoPart, NoTable, NotLoose
from tablefolk.folks import flaw, rest
from tablefolk.parts import is_loose, part_of, parts, shares, taken_out

FORTY = 10**39 + 7
# Turns 0 1 2, flips 3 4 5: the parts of a flip are the least that are not loose.
FLIPS = samples.turns_and_flips(3)
BY_PART = [shares, is_loose, taken_out]


def parts_by_their_words(table):
    """Every list of the right form, in the promised order: combinations come by the lesser list."""
    size = len(table)
    still = rest(table)
    found = []
    for many in range(1, size + 1):
        if size % many:
            continue
        for some in combinations(range(size), many):
            if still in some and all(table[a][b] in some for a in some for b in some):
                found.append(list(some))
    return found


KNOWN = [(table, parts_by_their_words(table)) for table in samples.folks()]


def each_part():
    for table, known in KNOWN:
        for part in known:
            yield table, part


def asks(table, some=(), part=(0,)):
    """Every function that asks for a folk, ready to be called."""
    some, part = list(some), list(part)
    calls = [lambda: part_of(table, some), lambda: parts(table)]
    return calls + [lambda ask=ask: ask(table, part) for ask in BY_PART]


class TablesAndFolks(samples.Refusing):
    def test_no_table_goes_ahead_of_all(self):
        for table in samples.NO_TABLES:
            for some, part in (((), (0,)), ((-1,), ()), ((99,), (99,))):
                for call in asks(table, some, part):
                    self.refused(NoTable, call)

    def test_no_folk_goes_ahead_of_the_others(self):
        for table, _ in samples.FLAWED:
            for some, part in (((), (0,)), ((-1,), ()), ((99,), (99,))):
                for call in asks(table, some, part):
                    self.refused(NoFolk, call)


class PartOf(samples.Refusing):
    def test_of_none_it_is_the_rest(self):
        for table in samples.folks():
            self.assertEqual(part_of(table, []), [rest(table)])

    def test_of_some(self):
        self.assertEqual(part_of(samples.circle(12), [8]), [0, 4, 8])
        self.assertEqual(part_of(samples.circle(12), [8, 6]), [0, 2, 4, 6, 8, 10])
        self.assertEqual(part_of(samples.circle(12), [4, 3]), list(range(12)))
        self.assertEqual(part_of(FLIPS, [3, 4]), [0, 1, 2, 3, 4, 5])

    def test_it_is_the_least_part_that_has_them(self):
        for table, known in KNOWN:
            for many in (1, 2, 3):
                for some in combinations(reversed(range(len(table))), many):
                    least = next(part for part in known if set(some) <= set(part))
                    self.assertEqual(part_of(table, list(some)), least)

    def test_one_twice_and_a_long_list(self):
        self.assertEqual(part_of(samples.circle(12), [8, 8]), [0, 4, 8])
        self.assertEqual(part_of(samples.circle(12), [9, 6, 9, 0, 6]), [0, 3, 6, 9])
        self.assertEqual(part_of(samples.circle(12), [4, 8] * 20), [0, 4, 8])
        self.assertEqual(part_of(samples.circle(12), [4, 8] * 30), [0, 4, 8])

    def test_no_element(self):
        for table in samples.folks():
            size = len(table)
            for wrong in (-FORTY, -1, -size, size, size + 1, FORTY):
                for some in ([wrong], [0, wrong], [wrong, 0], list(range(size)) + [wrong]):
                    self.refused(NoElement, lambda: part_of(table, some))


class Parts(unittest.TestCase):
    def test_all_parts_in_their_order(self):
        for table, known in KNOWN:
            self.assertEqual(parts(table), known)

    def test_known_parts(self):
        self.assertEqual(parts([[0]]), [[0]])
        self.assertEqual(parts(FLIPS), [[0], [0, 3], [0, 4], [0, 5], [0, 1, 2], [0, 1, 2, 3, 4, 5]])
        self.assertEqual(
            parts(samples.circle(12)),
            [[0], [0, 6], [0, 4, 8], [0, 3, 6, 9], [0, 2, 4, 6, 8, 10], list(range(12))],
        )
        backwards = samples.renamed(samples.circle(4), [3, 2, 1, 0])
        self.assertEqual(parts(backwards), [[3], [1, 3], [0, 1, 2, 3]])

    def test_how_many_there_are(self):
        self.assertEqual(len(parts(samples.pairs(samples.circle(2), samples.pairs(*[samples.circle(2)] * 2)))), 16)
        self.assertEqual(len(parts(samples.turns_and_flips(6))), 16)
        self.assertEqual(len(parts(samples.even_swaps_of_four())), 10)


class Shares(unittest.TestCase):
    def test_known_shares(self):
        self.assertEqual(shares(samples.circle(6), [0, 3]), [[0, 3], [1, 4], [2, 5]])
        self.assertEqual(shares(samples.circle(1), [0]), [[0]])
        for flip in (3, 4, 5):
            wanted = sorted([[0, flip], sorted([1, FLIPS[1][flip]]), sorted([2, FLIPS[2][flip]])])
            self.assertEqual(shares(FLIPS, [0, flip]), wanted)

    def test_the_element_stands_ahead(self):
        self.assertEqual(FLIPS[1][3], 4)
        self.assertEqual(FLIPS[3][1], 5)
        self.assertEqual(shares(FLIPS, [0, 3]), [[0, 3], [1, 4], [2, 5]])

    def test_shares_by_each_part(self):
        for table, part in each_part():
            wanted = {tuple(sorted(table[a][b] for b in part)) for a in range(len(table))}
            found = shares(table, part)
            self.assertEqual(found, [list(share) for share in sorted(wanted)])
            self.assertEqual(sorted(sum(found, [])), list(range(len(table))))
            self.assertEqual({len(share) for share in found}, {len(part)})


class Loose(samples.Refusing):
    def test_is_loose(self):
        self.assertIs(is_loose(FLIPS, [0]), True)
        self.assertIs(is_loose(FLIPS, [0, 1, 2]), True)
        self.assertIs(is_loose(FLIPS, [0, 1, 2, 3, 4, 5]), True)
        for flip in (3, 4, 5):
            self.assertIs(is_loose(FLIPS, [0, flip]), False)

    def test_each_part(self):
        answers = {True: 0, False: 0}
        for table, part in each_part():
            wanted = all({table[a][b] for b in part} == {table[b][a] for b in part} for a in range(len(table)))
            self.assertIs(is_loose(table, part), wanted)
            answers[wanted] += 1
        self.assertGreater(min(answers.values()), 50)

    def test_known_tables_of_shares(self):
        self.assertEqual(taken_out(samples.circle(12), [0, 4, 8]), samples.circle(4))
        self.assertEqual(taken_out(FLIPS, [0, 1, 2]), [[0, 1], [1, 0]])
        self.assertEqual(taken_out(FLIPS, [0]), FLIPS)
        self.assertEqual(taken_out(FLIPS, list(range(6))), [[0]])
        self.assertEqual(taken_out(samples.renamed(samples.circle(4), [3, 2, 1, 0]), [1, 3]), [[1, 0], [0, 1]])

    def test_shares_make_one_another_as_their_elements_do(self):
        for table, part in each_part():
            if not is_loose(table, part):
                self.refused(NotLoose, lambda: taken_out(table, part))
                continue
            found = shares(table, part)
            left = taken_out(table, part)
            self.assertIsNone(flaw(left))
            self.assertEqual(len(left), len(found))
            for a, one in enumerate(found):
                for b, other in enumerate(found):
                    made = sorted({table[x][y] for x in one for y in other})
                    self.assertEqual(found[left[a][b]], made)


class NoParts(samples.Refusing):
    def test_lists_that_are_no_parts(self):
        wrong = [
            [],
            [3, 0],
            [0, 2, 1],
            [0, 0],
            [0, 0, 3],
            [0, 3, 3],
            [0, 1, 2, 3, 4, 5, 5],
            [3],
            [1, 2],
            [0, 1],
            [0, 3, 4],
            [0, 1, 2, 3],
            [-1, 0],
            [-6],
            [-6, 0],
            [0, 6],
            [0, 3, 6],
            [0, 1, 2, 3, 4, 5, 6],
            [0, FORTY],
            [-FORTY, 0],
            [0] * 40,
            list(range(40)),
            list(range(50)),
        ]
        for part in wrong:
            for ask in BY_PART:
                self.refused(NoPart, lambda: ask(FLIPS, part))

    def test_every_rising_list_that_is_no_part(self):
        for table, known in KNOWN:
            if len(table) > 8:
                continue
            for many in range(len(table) + 1):
                for some in combinations(range(len(table)), many):
                    if list(some) not in known:
                        for ask in BY_PART:
                            self.refused(NoPart, lambda: ask(table, list(some)))

    def test_parts_told_backwards_are_none(self):
        for table, part in each_part():
            if len(part) > 1:
                for ask in BY_PART:
                    self.refused(NoPart, lambda: ask(table, part[::-1]))

    def test_the_rest_is_asked_for_where_it_is_not_nought(self):
        backwards = samples.renamed(samples.circle(4), [3, 2, 1, 0])
        for part in ([0], [0, 1], [1], [0, 2]):
            for ask in BY_PART:
                self.refused(NoPart, lambda: ask(backwards, part))
        self.assertEqual(shares(backwards, [3]), [[0], [1], [2], [3]])

    def test_not_loose_comes_behind_no_part(self):
        self.refused(NotLoose, lambda: taken_out(FLIPS, [0, 3]))
        self.refused(NoPart, lambda: taken_out(FLIPS, [3, 0]))
        self.refused(NoPart, lambda: taken_out(FLIPS, [0, 3, 3]))
        self.refused(NoPart, lambda: taken_out(FLIPS, [0, 3, 4]))


class NothingIsKept(unittest.TestCase):
    def test_what_is_handed_in_stays_as_it_was(self):
        for table, known in KNOWN:
            before = deepcopy(table)
            some = list(reversed(range(len(table)))) * 2
            part_of(table, some)
            self.assertEqual(some, list(reversed(range(len(table)))) * 2)
            parts(table)
            for part in known:
                kept = list(part)
                for ask in BY_PART:
                    if ask != taken_out or is_loose(table, part):
                        ask(table, part)
                self.assertEqual(part, kept)
            self.assertEqual(table, before)

    def test_what_is_refused_stays_as_it_was(self):
        table, part, some = deepcopy(FLIPS), [3, 0, 0], [0, 0, 9]
        for call in (lambda: part_of(table, some), lambda: shares(table, part), lambda: taken_out(table, part)):
            with self.assertRaises(FolkError):
                call()
        self.assertEqual((table, part, some), (FLIPS, [3, 0, 0], [0, 0, 9]))

    def test_no_two_lists_are_one(self):
        for table, known in KNOWN:
            self.assertTrue(samples.no_two_are_one(table, parts(table), parts(table)))
            for part in known:
                told = [part_of(table, part), part_of(table, part), shares(table, part), shares(table, part)]
                if is_loose(table, part):
                    told += [taken_out(table, part), taken_out(table, part)]
                self.assertTrue(samples.no_two_are_one(table, part, *told))

    def test_changing_what_was_told_changes_nothing(self):
        part = [0, 1, 2]
        asked = [
            lambda: part_of(FLIPS, part),
            lambda: parts(FLIPS),
            lambda: shares(FLIPS, part),
            lambda: taken_out(FLIPS, part),
            lambda: taken_out(FLIPS, [0]),
        ]
        before = deepcopy(FLIPS)
        for ask in asked:
            told = ask()
            kept = deepcopy(told)
            for each in samples.lists_within(told):
                each.append(99)
            self.assertEqual(ask(), kept)
        self.assertEqual((FLIPS, part), (before, [0, 1, 2]))

    def test_changing_what_was_handed_in_changes_nothing_told(self):
        table, part = samples.circle(4), [0, 2]
        told = [part_of(table, part), parts(table), shares(table, part), taken_out(table, part), taken_out(table, [0])]
        kept = deepcopy(told)
        for each in samples.lists_within(table) + [part]:
            each.clear()
        self.assertEqual(told, kept)

    def test_a_changed_table_is_told_anew(self):
        table = samples.circle(4)
        self.assertEqual(parts(table), [[0], [0, 2], [0, 1, 2, 3]])
        table[:] = samples.pairs(samples.circle(2), samples.circle(2))
        self.assertEqual(parts(table), [[0], [0, 1], [0, 2], [0, 3], [0, 1, 2, 3]])
        self.assertEqual(part_of(table, [1]), [0, 1])


if __name__ == "__main__":
    unittest.main()
