"""Tables and folks: a table's flaw, and the rest, the backs and the orders of a folk."""

from tablefolk.errors import NoElement, NoFolk, NoTable

MOST_ROWS = 12


def flaw(table):
    ask_table(table)
    return find_flaw(table)


def rest(table):
    ask_folk(table)
    return find_rest(table)


def back(table, element):
    ask_folk(table)
    ask_element(table, element)
    return find_back(table, find_rest(table), element)


def order(table, element):
    ask_folk(table)
    ask_element(table, element)
    return len(one_round(table, element))


def done(table, element, times):
    ask_folk(table)
    ask_element(table, element)
    # Times of forty figures can't be walked one by one; the round comes again and again, below nought too.
    made = one_round(table, element)
    return made[times % len(made)]


def ask_table(table):
    size = len(table)
    if size < 1 or size > MOST_ROWS:
        raise NoTable("a table has 1 to 12 rows")
    for row in table:
        if len(row) != size:
            raise NoTable("each row of a table has as many numbers as there are rows")
        if not all([is_element(table, number) for number in row]):
            raise NoTable("each number of a table is from nought to below the number of rows")


def ask_folk(table):
    ask_table(table)
    if find_flaw(table) is not None:
        raise NoFolk("the table has a flaw")


def ask_element(table, element):
    if not is_element(table, element):
        raise NoElement("an element is from nought to below the number of rows")


def is_element(table, number):
    return number >= 0 and number < len(table)


def find_flaw(table):
    three = find_three(table)
    if three is not None:
        return three
    still = find_rest(table)
    if still is None:
        return ("rest",)
    for element in range(len(table)):
        if find_back(table, still, element) is None:
            return ("back", element)
    return None


def find_three(table):
    size = len(table)
    for a in range(size):
        for b in range(size):
            for c in range(size):
                if table[table[a][b]][c] != table[a][table[b][c]]:
                    return ("three", a, b, c)
    return None


def find_rest(table):
    size = len(table)
    for still in range(size):
        if all([table[still][a] == a and table[a][still] == a for a in range(size)]):
            return still
    return None


def find_back(table, still, element):
    for other in range(len(table)):
        if table[element][other] == still and table[other][element] == still:
            return other
    return None


def one_round(table, element):
    # In a folk the first of these to come again is the rest, so the round ends, and its length is the order.
    still = find_rest(table)
    made = [still]
    latest = element
    while latest != still:
        made.append(latest)
        latest = table[latest][element]
    return made
