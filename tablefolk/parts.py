"""Parts of a folk: what is closed in itself, the shares by a part, and what is left when it is taken out."""

from tablefolk.errors import NoPart, NotLoose
from tablefolk.folks import ask_element, ask_folk, find_rest, is_element


def part_of(table, some):
    ask_folk(table)
    for element in some:
        ask_element(table, element)
    return least_part(table, some)


def parts(table):
    ask_folk(table)
    found = [least_part(table, [])]
    # One walk is enough: a part is reached by putting in its own members one by one, the least first.
    for element in range(len(table)):
        for part in list(found):
            wider = least_part(table, part + [element])
            if wider not in found:
                found.append(wider)
    return sorted(found, key=fewest_first)


def shares(table, part):
    ask_folk(table)
    ask_part(table, part)
    return all_shares(table, part)


def is_loose(table, part):
    ask_folk(table)
    ask_part(table, part)
    return same_on_both_sides(table, part)


def taken_out(table, part):
    ask_folk(table)
    ask_part(table, part)
    if not same_on_both_sides(table, part):
        raise NotLoose("the part is not loose")
    found = all_shares(table, part)
    return table_of_shares(table, found)


def ask_part(table, part):
    if not all([is_element(table, number) for number in part]):
        raise NoPart("a number of the list is no element")
    # Only a list that rises, has the rest and is closed is the least part of its own members.
    if least_part(table, part) != part:
        raise NoPart("the list is not rising, lacks the rest, or is not closed")


def least_part(table, some):
    # The backs need no step of their own: a back is its element done some number of times.
    inside = sorted(set(some + [find_rest(table)]))
    wider = with_all_made(table, inside)
    while wider != inside:
        inside = wider
        wider = with_all_made(table, inside)
    return inside


def with_all_made(table, inside):
    made = list(inside)
    for a in inside:
        made.extend([table[a][b] for b in inside])
    return sorted(set(made))


def fewest_first(part):
    return (len(part), part)


def share_ahead(table, part, element):
    return sorted([table[element][member] for member in part])


def share_behind(table, part, element):
    return sorted([table[member][element] for member in part])


def all_shares(table, part):
    found = []
    for element in range(len(table)):
        share = share_ahead(table, part, element)
        # A share comes up once for each of its members; at its least one alone it is new.
        if share[0] == element:
            found.append(share)
    return found


def same_on_both_sides(table, part):
    return all([share_ahead(table, part, a) == share_behind(table, part, a) for a in range(len(table))])


def table_of_shares(table, found):
    place = {}
    for number, share in enumerate(found):
        for element in share:
            place[element] = number
    # The part is loose, so whichever members stand for two shares, they make a member of the same share.
    heads = [share[0] for share in found]
    rows = []
    for head in heads:
        rows.append([place[table[head][other]] for other in heads])
    return rows
