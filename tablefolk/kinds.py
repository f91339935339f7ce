"""Kinds of a folk: which of its elements are of one kind, and its middle."""

from tablefolk.folks import ask_folk


def kinds(table):
    ask_folk(table)
    found = []
    for element in range(len(table)):
        kind = kind_of(table, element)
        # A kind comes up once for each of its members; at its least one alone it is new.
        if kind[0] == element:
            found.append(kind)
    return found


def middle(table):
    ask_folk(table)
    return [element for element in range(len(table)) if makes_the_same_behind(table, element)]


def kind_of(table, element):
    return [other for other in range(len(table)) if are_of_one_kind(table, element, other)]


def are_of_one_kind(table, one, other):
    return any([table[a][one] == table[other][a] for a in range(len(table))])


def makes_the_same_behind(table, element):
    return all([table[element][a] == table[a][element] for a in range(len(table))])
