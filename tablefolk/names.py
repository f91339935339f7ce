"""Names and pairs: whether two folks are one but for names, and two folks side by side."""

from tablefolk.errors import TooLarge
from tablefolk.folks import MOST_ROWS, ask_folk, find_rest


def renaming(one, other):
    ask_folk(one)
    ask_folk(other)
    if len(one) != len(other):
        return None
    # A renaming can't but take the rest to the rest, so nothing is lost by beginning there.
    return find_renaming(one, other, {find_rest(one): find_rest(other)})


def beside(one, other):
    ask_folk(one)
    ask_folk(other)
    size = len(one) * len(other)
    if size > MOST_ROWS:
        raise TooLarge("there are more than 12 pairs")
    rows = []
    for ahead in range(size):
        rows.append([made_by_pairs(one, other, ahead, behind) for behind in range(size)])
    return rows


def find_renaming(one, other, names):
    if len(names) == len(one):
        return [names[element] for element in range(len(one))]
    element = least_without_name(names)
    for name in range(len(other)):
        wider = with_name(one, other, names, element, name)
        if wider is not None:
            found = find_renaming(one, other, wider)
            if found is not None:
                return found
    return None


def least_without_name(names):
    element = 0
    while element in names:
        element = element + 1
    return element


def with_name(one, other, names, element, name):
    # The named ones give names to all that they make, so few are tried: each at least doubles how many have one.
    wider = dict(names)
    wider[element] = name
    made = with_all_named(one, other, wider)
    while made is not None and len(made) > len(wider):
        wider = made
        made = with_all_named(one, other, wider)
    return made


def with_all_named(one, other, names):
    wider = dict(names)
    for a in names:
        for b in names:
            made = one[a][b]
            name = other[names[a]][names[b]]
            if wider.get(made, name) != name:
                return None
            wider[made] = name
    if len(set([wider[element] for element in wider])) < len(wider):
        return None
    return wider


def made_by_pairs(one, other, ahead, behind):
    size = len(one)
    a = one[ahead % size][behind % size]
    b = other[ahead // size][behind // size]
    return a + b * size
