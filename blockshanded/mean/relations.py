"""Relations as numbers, without any checks: the bits for the ends from the mode m begin at m times the ends."""


def row_of(relation, mode, ends):
    """The ends from a mode, as the number with a bit for each of them."""
    return (relation >> (mode * ends)) & ((1 << ends) - 1)


def has_pair(relation, start, end, ends):
    """Whether a relation, with so many ends, leads from a mode to an end."""
    return (row_of(relation, start, ends) >> end) & 1 == 1


def pairs_of(relation, modes, ends):
    """The pairs of a relation, ascending."""
    return [divmod(bit, ends) for bit in range(modes * ends) if (relation >> bit) & 1]


def same_of(modes, ends):
    """The relation of all pairs (m, m)."""
    return sum([1 << (mode * ends + mode) for mode in range(modes)])


def deed_relation(table, ends, is_watched):
    """The relation of a deed with this table; that of a watched word has just the last end."""
    relation = 0
    for mode, following in enumerate(table):
        if following is not None:
            end = ends - 1 if is_watched else following
            relation |= 1 << (mode * ends + end)
    return relation


def leading_modes(relation, goal, modes, ends):
    """The modes from which a relation leads to one of the ends in the goal; both are numbers with bits."""
    found = 0
    for mode in range(modes):
        if row_of(relation, mode, ends) & goal:
            found |= 1 << mode
    return found


def followed_by(one, other, modes, ends):
    """One relation after another one."""
    relation = 0
    for mode in range(modes):
        row = row_of(one, mode, ends)
        # A bit beyond the modes is the end of a watched word, and is kept.
        found = (row >> modes) << modes
        for middle in range(modes):
            if (row >> middle) & 1:
                found |= row_of(other, middle, ends)
        relation |= found << (mode * ends)
    return relation


def is_growing(table, bits):
    """Whether what a table tells for a number with some bits has all bits of what it tells with fewer of them."""
    # It is enough to look at numbers that have just one bit more.
    for bit in range(bits):
        for less, found in enumerate(table):
            greater = table[less | (1 << bit)]
            if (found | greater) != greater:
                return False
    return True
