"""What is promised over the whole program: its interface, and that nothing hangs on what is handed in or told."""

import inspect
import unittest
from copy import deepcopy
from importlib import import_module

import samples
from tablefolk.errors import FolkError, NoElement, NoFolk, NoNote, NoPart, NoTable, NotLoose, TooLarge

INTERFACE = {
    "folks": {
        "flaw": ["table"],
        "rest": ["table"],
        "back": ["table", "element"],
        "order": ["table", "element"],
        "done": ["table", "element", "times"],
    },
    "parts": {
        "part_of": ["table", "some"],
        "parts": ["table"],
        "shares": ["table", "part"],
        "is_loose": ["table", "part"],
        "taken_out": ["table", "part"],
    },
    "kinds": {"kinds": ["table"], "middle": ["table"]},
    "names": {"renaming": ["one", "other"], "beside": ["one", "other"]},
    "notes": {"shown": ["table"], "read": ["text"]},
}
FORTY = 10**39 + 7
FLIPS = samples.turns_and_flips(3)
# Of each function some things that it may be handed, and the kind of what it then tells.
ANSWERED = [
    ("flaw", [FLIPS], type(None)),
    ("flaw", [[[0, 0], [0, 0]]], tuple),
    ("rest", [FLIPS], int),
    ("back", [FLIPS, 1], int),
    ("order", [FLIPS, 1], int),
    ("done", [FLIPS, 1, -FORTY], int),
    ("part_of", [FLIPS, []], list),
    ("part_of", [FLIPS, [2, 1, 2]], list),
    ("part_of", [FLIPS, [0, 1, 2]], list),
    ("part_of", [FLIPS, [3, 1] * 20], list),
    ("parts", [FLIPS], list),
    ("parts", [[[0]]], list),
    ("shares", [FLIPS, [0, 3]], list),
    ("shares", [FLIPS, [0, 1, 2, 3, 4, 5]], list),
    ("is_loose", [FLIPS, [0, 3]], bool),
    ("taken_out", [FLIPS, [0]], list),
    ("taken_out", [FLIPS, [0, 1, 2]], list),
    ("kinds", [FLIPS], list),
    ("kinds", [samples.circle(12)], list),
    ("middle", [FLIPS], list),
    ("middle", [samples.circle(12)], list),
    ("renaming", [FLIPS, samples.renamed(FLIPS, [5, 4, 0, 2, 3, 1])], list),
    ("renaming", [FLIPS, samples.circle(6)], type(None)),
    ("renaming", [[[0]], [[0]]], list),
    ("beside", [FLIPS, samples.circle(2)], list),
    ("beside", [[[0]], FLIPS], list),
    ("beside", [FLIPS, [[0]]], list),
    ("shown", [FLIPS], str),
    ("shown", [[[0, 0], [0, 0]]], str),
    ("read", ["0 1/1 0"], list),
    ("read", ["0 0 0/0 0 0/0 0 0"], list),
]
REFUSED = [
    ("flaw", [[[0, 1], [1, FORTY]]], NoTable),
    ("rest", [[[0, 0], [0, 0]]], NoFolk),
    ("back", [FLIPS, 6], NoElement),
    ("order", [FLIPS, -FORTY], NoElement),
    ("done", [FLIPS, FORTY, FORTY], NoElement),
    ("part_of", [FLIPS, [5, 2, FORTY, 1]], NoElement),
    ("parts", [samples.circle(40)], NoTable),
    ("shares", [FLIPS, [3, 0, 3]], NoPart),
    ("is_loose", [FLIPS, list(range(40))], NoPart),
    ("taken_out", [FLIPS, [0, 3]], NotLoose),
    ("kinds", [[[0, 1], [1, 1]]], NoFolk),
    ("middle", [[[0, 1], [1]]], NoTable),
    ("renaming", [FLIPS, [[0, 1], [1, 1]]], NoFolk),
    ("beside", [FLIPS, samples.circle(3)], TooLarge),
    ("shown", [[[0, 1], [1, -FORTY]]], NoTable),
    ("read", ["0 1/1 0 "], NoNote),
]


def functions():
    found = {}
    for file, names in INTERFACE.items():
        for name in names:
            found[name] = getattr(import_module("tablefolk." + file), name)
    return found


FUNCTIONS = functions()


def spoil(value):
    for each in samples.lists_within(value):
        each.clear()
        each.append(99)


class Interface(unittest.TestCase):
    def test_names_and_arguments(self):
        for names in INTERFACE.values():
            for name, arguments in names.items():
                found = inspect.signature(FUNCTIONS[name]).parameters
                self.assertEqual(list(found), arguments, name)
                self.assertTrue(all(each.default is inspect.Parameter.empty for each in found.values()), name)

    def test_by_place_and_by_name(self):
        for file, names in INTERFACE.items():
            for name, handed, _ in ANSWERED:
                if name in names:
                    by_name = FUNCTIONS[name](**dict(zip(names[name], deepcopy(handed))))
                    self.assertEqual(by_name, FUNCTIONS[name](*deepcopy(handed)), (file, name))

    def test_kinds_of_what_is_told(self):
        for name, handed, kind in ANSWERED:
            self.assertIs(type(FUNCTIONS[name](*deepcopy(handed))), kind, name)

    def test_each_function_is_asked_and_refuses(self):
        for rows in (ANSWERED, REFUSED):
            self.assertEqual({name for name, _, _ in rows}, set(FUNCTIONS))


class Refusals(samples.Refusing):
    def test_each_is_refused_with_its_own(self):
        for name, handed, error in REFUSED:
            self.refused(error, lambda: FUNCTIONS[name](*deepcopy(handed)))

    def test_an_error_has_words(self):
        for name, handed, error in REFUSED:
            with self.assertRaises(error) as caught:
                FUNCTIONS[name](*deepcopy(handed))
            self.assertTrue(str(caught.exception))


class NothingIsKept(unittest.TestCase):
    def test_what_is_handed_in_is_the_same_afterwards(self):
        for name, handed, _ in ANSWERED + REFUSED:
            given = deepcopy(handed)
            ids = [id(each) for each in samples.lists_within(given)]
            try:
                FUNCTIONS[name](*given)
            except FolkError:
                pass
            self.assertEqual(given, handed, name)
            self.assertEqual([id(each) for each in samples.lists_within(given)], ids, name)

    def test_no_two_lists_of_what_is_told_are_one(self):
        for name, handed, _ in ANSWERED:
            given = deepcopy(handed)
            self.assertTrue(samples.no_two_are_one(given, FUNCTIONS[name](*given), FUNCTIONS[name](*given)), name)

    def test_changing_what_was_told_changes_no_later_answer(self):
        for name, handed, _ in ANSWERED:
            given = deepcopy(handed)
            told = FUNCTIONS[name](*given)
            kept = deepcopy(told)
            spoil(told)
            self.assertEqual(given, handed, name)
            self.assertEqual(FUNCTIONS[name](*given), kept, name)

    def test_changing_what_was_handed_in_changes_nothing_told(self):
        for name, handed, _ in ANSWERED:
            given = deepcopy(handed)
            told = FUNCTIONS[name](*given)
            kept = deepcopy(told)
            spoil(given)
            self.assertEqual(told, kept, name)
            self.assertEqual(FUNCTIONS[name](*deepcopy(handed)), kept, name)

    def test_a_table_changed_in_its_place_is_told_anew(self):
        table = samples.circle(6)
        one_table = ["rest", "parts", "kinds", "middle", "shown"]
        for name in one_table:
            FUNCTIONS[name](table)
        renaming = FUNCTIONS["renaming"]
        self.assertIsNone(renaming(table, FLIPS))
        for row, other in zip(table, FLIPS):
            row[:] = other
        for name in one_table:
            self.assertEqual(FUNCTIONS[name](table), FUNCTIONS[name](deepcopy(FLIPS)), name)
        self.assertIsNotNone(renaming(table, FLIPS))
        self.assertIsNone(renaming(table, samples.circle(6)))

    def test_one_list_handed_in_twice(self):
        two = samples.circle(2)
        self.assertEqual(FUNCTIONS["renaming"](two, two), [0, 1])
        four = FUNCTIONS["beside"](two, two)
        self.assertTrue(samples.no_two_are_one(two, four))
        row = [0, 0]
        self.assertEqual(FUNCTIONS["shown"]([row, row]), "0 0/0 0")
        self.assertEqual(FUNCTIONS["flaw"]([row, row]), ("rest",))
        self.assertEqual(row, [0, 0])


if __name__ == "__main__":
    unittest.main()
