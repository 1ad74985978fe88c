"""The sites of bodies that are made into functions: where these ask for other contexts or rows.

A value is told here by a triple: what it is, if it is the same in all contexts, or None; the tuple of the sites
that it depends on; and a function that tells it by the meanings of a context and the numbers of what is asked for
at each site.
"""

from blockshanded.mean.ledgers import KEY_BITS, packed


class Sites:
    """The sites of a body, in the order in which they are asked for.

    A site is a tuple of its index, the dict of the numbers by packed meanings, the function for these, what the
    numbers are of, whether it is a row, and whether what is found there is just added to what the body tells.
    Those that do not depend on others are static.
    """

    def __init__(self, for_row):
        self.for_row = for_row
        self.static_sites = []
        self.dynamic_sites = []
        # For each site the ones that it depends on; and those on which others depend.
        self.reads = []
        self.feeding = {}
        self.is_static = True
        self.many_sites = 0

    def add_site(self, values, numbers, target, is_row, is_direct):
        """Adds a site that asks with the meanings that these values tell; its index and what it depends on."""
        index = self.many_sites
        reads = tuple([site for value in values for site in value[1]])
        self.many_sites += 1
        self.reads.append(reads)
        for site in reads:
            self.feeding[site] = True
        site = (index, numbers, packed_function(values), target, is_row, is_direct)
        if reads:
            self.dynamic_sites.append(site)
            self.is_static = False
        else:
            self.static_sites.append(site)
        return reads + (index,)

    def add_row_site(self, key_of, numbers, target):
        """Adds a site of a row, where a context is asked for with the meanings of the row and one more."""
        self.static_sites.append((self.many_sites, numbers, key_of, target, False, False))
        self.reads.append(())
        self.many_sites += 1


def constant_value(meaning):
    """The value that is the same one in all contexts."""
    return (meaning, (), lambda given, asked: meaning)


def given_value(place):
    """The value that is handed for a parameter."""
    return (None, (), lambda given, asked: given[place])


def site_value(sites, current):
    """What is found at the last one of some sites, by the list of what has been found for all numbers."""
    index = sites[-1]
    return (None, sites, lambda given, asked: current[asked[index]])


def packed_two(one, other):
    """The function for the key of two meanings."""
    return lambda given, asked: one(given, asked) | (other(given, asked) << KEY_BITS)


def packed_three(one, other, last):
    """The function for the key of three meanings."""
    rest = packed_two(other, last)
    return lambda given, asked: one(given, asked) | (rest(given, asked) << KEY_BITS)


def packed_function(values):
    """The function for the key of the meanings that are told by these values."""
    if not [value for value in values if value[0] is None]:
        return constant_value(packed([value[0] for value in values]))[2]
    functions = [value[2] for value in values]
    if len(functions) == 1:
        return functions[0]
    return packed_two(*functions) if len(functions) == 2 else packed_three(*functions)


def last_packed(many, last):
    """The function for the key of so many meanings that are handed, with one more behind them."""
    key = last << (KEY_BITS * many)
    if many == 0:
        return constant_value(key)[2]
    return first_with(key) if many == 1 else all_with(key)


def first_with(key):
    """The function for the key of the first meaning that is handed, with another key added."""
    return lambda given, asked: given[0] | key


def all_with(key):
    """The function for the key of all meanings that are handed, with another key added."""
    return lambda given, asked: packed(given) | key
