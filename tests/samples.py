"""Folks to test with, made without the program, and what every test of refusals and told lists asks."""

import unittest
from itertools import permutations, product

from tablefolk.errors import FolkError


class Refusing(unittest.TestCase):
    def refused(self, error, call):
        with self.assertRaises(FolkError) as caught:
            call()
        self.assertIs(type(caught.exception), error)


def table_of(members, make):
    place = {member: number for number, member in enumerate(members)}
    return [[place[make(a, b)] for b in members] for a in members]


def circle(size):
    return [[(a + b) % size for b in range(size)] for a in range(size)]


def pairs(one, other):
    members = [(a, b) for a in range(len(one)) for b in range(len(other))]
    return table_of(members, lambda x, y: (one[x[0]][y[0]], other[x[1]][y[1]]))


def turns_and_flips(size):
    members = [(turn, flip) for flip in range(2) for turn in range(size)]
    return table_of(members, lambda x, y: ((x[0] + (-1) ** x[1] * y[0]) % size, x[1] ^ y[1]))


def twisted(half):
    size = 2 * half
    members = [(turn, flip) for flip in range(2) for turn in range(size)]
    return table_of(
        members,
        lambda x, y: ((x[0] + (-1) ** x[1] * y[0] + half * x[1] * y[1]) % size, x[1] ^ y[1]),
    )


def is_even(swap):
    return sum(swap[a] > swap[b] for a in range(len(swap)) for b in range(a + 1, len(swap))) % 2 == 0


def even_swaps_of_four():
    members = [swap for swap in permutations(range(4)) if is_even(swap)]
    return table_of(members, lambda x, y: tuple(x[y[k]] for k in range(4)))


def renamed(table, names):
    size = len(table)
    rows = [[None] * size for _ in range(size)]
    for a in range(size):
        for b in range(size):
            rows[names[a]][names[b]] = names[table[a][b]]
    return rows


def name_orders(size):
    """The names as they are, backwards, turned by some places, and mixed."""
    mixed = sorted(range(size), key=lambda k: ((k + 2) * 7919 % 101, k))
    turned = [(k + size // 2 + 1) % size for k in range(size)]
    return [list(range(size)), list(reversed(range(size))), turned, mixed]


def plain_folks():
    """Every folk of 1 to 12 elements but for names."""
    folks = [circle(size) for size in range(1, 13)]
    two, three, four, six = circle(2), circle(3), circle(4), circle(6)
    folks += [pairs(two, two), pairs(two, four), pairs(two, pairs(two, two)), pairs(three, three), pairs(two, six)]
    folks += [turns_and_flips(size) for size in (3, 4, 5, 6)]
    folks += [twisted(2), twisted(3), even_swaps_of_four()]
    return folks


def folks():
    return [renamed(table, names) for table in plain_folks() for names in name_orders(len(table))]


def all_tables(size):
    for numbers in product(range(size), repeat=size * size):
        yield [list(numbers[size * row:size * (row + 1)]) for row in range(size)]


def lists_within(value):
    """Every list that a value holds, itself among them."""
    found = [value] if isinstance(value, list) else []
    if isinstance(value, (list, tuple)):
        for thing in value:
            found += lists_within(thing)
    return found


def no_two_are_one(*values):
    ids = [id(each) for value in values for each in lists_within(value)]
    return len(ids) == len(set(ids))


NO_TABLES = [
    [],
    circle(13),
    circle(40),
    [[]],
    [[], []],
    [[0, 1], [1]],
    [[0], [1, 0]],
    [[0, 1], [1, 0, 0]],
    [[0, 1, 0], [1, 0]],
    [[0, 1], [1, 0], []],
    [[0, 1]],
    [[0], [0]],
    [[0, 0]] * 3,
    [[0, 1], [1, -1]],
    [[-1, 1], [1, 0]],
    [[-1]],
    [[1]],
    [[0, 1], [1, 2]],
    [[2, 1], [1, 0]],
    [[0, 1], [1, 3]],
    [[0, 1], [1, 10**39]],
    [[0, 1], [1, -(10**39)]],
    [[0, 1, 2], [1, 2, 0], [2, 0, 3]],
    [[0, 1, 2], [1, 2, 0], [2, 0]],
]

FLAWED = [
    ([[1, 0], [0, 0]], ("three", 0, 0, 1)),
    ([[(a - b) % 3 for b in range(3)] for a in range(3)], ("three", 0, 0, 1)),
    ([[0, 0], [0, 0]], ("rest",)),
    ([[0, 0], [1, 1]], ("rest",)),
    ([[0, 1], [0, 1]], ("rest",)),
    ([[0, 0], [0, 1]], ("back", 0)),
    ([[0, 1], [1, 1]], ("back", 1)),
    ([[max(a, b) for b in range(12)] for a in range(12)], ("back", 1)),
    ([[a * b % 12 for b in range(12)] for a in range(12)], ("back", 0)),
]
