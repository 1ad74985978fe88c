"""Stage 6: `Space`, [0.10] and [0.11]."""

import unittest

from blockshanded.errors import InvalidMeaning, InvalidNumber, InvalidOperation
from blockshanded.mean.spaces import Space
from tests.samples import FLIPS, PromiseTest, anything, picture

ALL = [(modes, watched) for modes in (1, 2, 3) for watched in (False, True)]
SMALL = [(1, False), (1, True), (2, False)]


def pairs_of(modes, watched, relation):
    """The pairs of a relation by the words of the document."""
    ends = modes + watched
    return {(m, e) for m in range(modes) for e in range(ends) if relation // 2 ** (m * ends + e) % 2}


def relations_to_try(space):
    """All relations of a small space, some of a great one."""
    if space.size <= 64:
        return range(space.size)
    step = space.size // 61
    return sorted({0, 1, 2, space.same, space.size - 1} | set(range(0, space.size, step)))


class SpaceTest(PromiseTest):
    def spaces(self, kinds=ALL):
        for modes, watched in kinds:
            with self.subTest(modes=modes, watched=watched):
                yield Space(modes, watched=watched), modes, watched

    def no_relations(self, space):
        """Values that are no relations of the space."""
        return [space.size, -1, space.size + 1, -space.size, 10 ** 40 - 1, True, False, None, "0", "", (0,), (), [0],
                {}, {0: 0}, ((0, 0),), FLIPS, space]

    def no_tables(self, space):
        """Values that are no tables of the space."""
        right = (0,) * space.size
        wrong = [right[1:], right + (0,), list(right), right[1:] + (space.size,), (-1,) + right[1:],
                 right[1:] + (False,), (True,) + right[1:], right[1:] + (None,), right[1:] + ((0,),),
                 right[1:] + ("0",), dict.fromkeys(range(space.size), 0), 0, space.size - 1]
        return wrong + [value for value in anything() if value != right]


class MakingTest(SpaceTest):
    def test_properties(self):
        for modes, watched, ends, size, same in (
                (1, False, 1, 2, 1), (2, False, 2, 16, 9), (3, False, 3, 512, 273),
                (1, True, 2, 4, 1), (2, True, 3, 64, 17), (3, True, 4, 4096, 1 + 2 ** 5 + 2 ** 10)):
            space = Space(modes, watched=watched)
            self.assert_same((space.modes, space.watched, space.ends, space.size, space.same),
                             (modes, watched, ends, size, same))
        self.assert_same(Space(2).watched, False)
        self.assert_same(Space(2), Space(2, watched=False))

    def test_wrong_modes(self):
        for value in anything():
            if picture(value) not in [picture(modes) for modes in (1, 2, 3)]:
                self.assert_raises(InvalidNumber, Space, value, value=value)
                self.assert_raises(InvalidNumber, Space, value, by_keyword={"watched": 7}, value=value)
        for value in (0, 4, -1, True, "2", 10 ** 39):
            self.assert_raises(InvalidNumber, Space, value, value=value)

    def test_watched_is_a_boolean(self):
        for value in anything():
            if not isinstance(value, bool):
                self.assert_raises(InvalidOperation, Space, 2, by_keyword={"watched": value})

    def test_equality(self):
        spaces = [Space(modes, watched=watched) for modes, watched in ALL]
        for place, space in enumerate(spaces):
            self.assert_equal_things(space, Space(*ALL[place][:1], watched=ALL[place][1]))
            self.assert_equals_no_other(space, spaces[:place] + spaces[place + 1:])
        self.assert_equals_no_other(Space(3), anything() + [3, (3, False), str(Space(3))])
        self.assertIn(Space(1), [Space(2), Space(1)])

    def test_texts(self):
        self.assert_same(str(Space(2)), "16 relations of 2 modes")
        self.assert_same(str(Space(1)), "2 relations of 1 modes")
        self.assert_same(str(Space(3, watched=True)), "4096 relations of 3 modes, watched")

    def test_no_iteration(self):
        self.assert_not_iterable(Space(1))
        self.assert_not_iterable(Space(2, watched=True))

    def test_where_all_is_defined(self):
        self.assertEqual(Space.__module__, "blockshanded.mean.spaces")
        for name in ("modes", "watched", "ends", "size", "same", "pairs", "relation", "followed", "either", "is_within",
                     "is_table", "is_monotone", "composed", "__eq__", "__str__"):
            self.assertIn(name, vars(Space))


class PairsTest(SpaceTest):
    def test_pairs_and_relation_there_and_back(self):
        for space, modes, watched in self.spaces():
            for relation in relations_to_try(space):
                pairs = tuple(sorted(pairs_of(modes, watched, relation)))
                self.assert_same(space.pairs(relation), pairs)
                self.assert_same(space.relation(pairs), relation)
                self.assert_same(space.relation(pairs[::-1]), relation)
                self.assert_same(space.relation(pairs[1:] + pairs[:1]), relation)

    def test_least_and_greatest(self):
        for space, modes, watched in self.spaces():
            self.assert_same(space.pairs(0), ())
            self.assert_same(space.relation(()), 0)
            self.assertEqual(len(space.pairs(space.size - 1)), modes * (modes + watched))
            self.assert_same(space.pairs(space.same), tuple((m, m) for m in range(modes)))

    def test_pairs_of_what_is_no_relation(self):
        for space, _, _ in self.spaces():
            for value in self.no_relations(space):
                self.assert_raises(InvalidNumber, space.pairs, value, value=value)

    def test_wrong_pairs(self):
        for space, modes, watched in self.spaces():
            ends = modes + watched
            for pair in ((modes, 0), (0, ends), (-1, 0), (0, -1), (0, 10 ** 39), (True, 0), (0, False), (0, None),
                         ("0", 0), (0,), (0, 0, 0), (), [0, 0], 0, None, "00", {0: 0}, ((0, 0),)):
                self.assert_raises(InvalidMeaning, space.relation, (pair,))
                self.assert_raises(InvalidMeaning, space.relation, ((0, 0), pair))
                self.assert_raises(InvalidMeaning, space.relation, (pair, (0, 0)))

    def test_the_end_of_a_watched_word(self):
        for modes in (1, 2, 3):
            plain, watched = Space(modes), Space(modes, watched=True)
            for mode in range(modes):
                self.assert_raises(InvalidMeaning, plain.relation, ((mode, modes),))
                self.assert_same(watched.relation(((mode, modes),)), 2 ** (mode * (modes + 1) + modes))
                self.assert_raises(InvalidMeaning, watched.relation, ((mode, modes + 1),))
                self.assert_raises(InvalidMeaning, watched.relation, ((modes, mode),))

    def test_pairs_given_twice(self):
        for space, _, _ in self.spaces():
            for pairs in (((0, 0), (0, 0)), ((0, 0),) * 3):
                self.assert_raises(InvalidMeaning, space.relation, pairs)
        self.assert_raises(InvalidMeaning, Space(2).relation, ((0, 1), (1, 1), (0, 1)))

    def test_what_is_no_tuple_of_pairs(self):
        for space, _, _ in self.spaces():
            for value in anything():
                if value != ():
                    self.assert_raises(InvalidMeaning, space.relation, value)
            self.assert_raises(InvalidMeaning, space.relation, [(0, 0)])
            self.assert_raises(InvalidMeaning, space.relation, {(0, 0): 1})


class JoiningTest(SpaceTest):
    def test_followed(self):
        for space, modes, watched in self.spaces():
            numbers = list(relations_to_try(space))
            for one in numbers:
                for other in numbers[::3]:
                    first, second = pairs_of(modes, watched, one), pairs_of(modes, watched, other)
                    wanted = {(m, f) for m, e in first for k, f in second if k == e}
                    wanted |= {(m, e) for m, e in first if e == modes}
                    self.assertEqual(set(space.pairs(space.followed(one, other))), wanted)

    def test_followed_by_all_pairs_with_the_same_mode(self):
        for space, _, _ in self.spaces():
            for relation in relations_to_try(space):
                self.assert_same(space.followed(relation, space.same), relation)
                self.assert_same(space.followed(space.same, relation), relation)

    def test_what_is_done_stays_done(self):
        for modes in (1, 2, 3):
            space = Space(modes, watched=True)
            done = space.relation(tuple((m, modes) for m in range(modes)))
            for relation in relations_to_try(space):
                self.assert_same(space.followed(done, relation), done)
            self.assert_same(space.followed(space.same, 0), 0)

    def test_either_and_is_within(self):
        for space, modes, watched in self.spaces():
            numbers = list(relations_to_try(space))
            for one in numbers:
                for other in numbers[::3]:
                    first, second = pairs_of(modes, watched, one), pairs_of(modes, watched, other)
                    self.assertEqual(set(space.pairs(space.either(one, other))), first | second)
                    self.assertIs(space.is_within(one, other), first <= second)
                    self.assertIs(space.is_within(one, space.either(one, other)), True)

    def test_the_first_of_both_that_is_no_relation(self):
        for space, _, _ in self.spaces():
            for call in (space.followed, space.either, space.is_within):
                for value in self.no_relations(space):
                    self.assert_raises(InvalidNumber, call, value, 0, value=value)
                    self.assert_raises(InvalidNumber, call, space.size - 1, value, value=value)
                    self.assert_raises(InvalidNumber, call, value, space.size, value=value)
                    self.assert_raises(InvalidNumber, call, space.size, value, value=space.size)


class TablesTest(SpaceTest):
    def test_is_table(self):
        for space, _, _ in self.spaces():
            greatest = space.size - 1
            for table in ((0,) * space.size, (greatest,) * space.size, tuple(range(space.size)),
                          tuple(range(space.size))[::-1]):
                self.assertIs(space.is_table(table), True)
            for value in self.no_tables(space):
                self.assertIs(space.is_table(value), False)

    def test_is_monotone_with_all_tables_of_small_spaces(self):
        for table in ((a, b) for a in range(2) for b in range(2)):
            self.assertIs(Space(1).is_monotone(table), table != (1, 0))
        space = Space(1, watched=True)
        for number in range(4 ** 4):
            table = tuple(number // 4 ** place % 4 for place in range(4))
            wanted = all(space.is_within(table[one], table[other]) for one in range(4) for other in range(4)
                         if space.is_within(one, other))
            self.assertIs(space.is_monotone(table), wanted)

    def test_is_monotone(self):
        for space, _, _ in self.spaces():
            every = tuple(range(space.size))
            greatest = space.size - 1
            for table in (every, (0,) * space.size, (greatest,) * space.size, (0,) * greatest + (greatest,),
                          tuple(relation & 1 for relation in every), tuple(relation | 1 for relation in every)):
                self.assertIs(space.is_monotone(table), True)
            for table in (every[::-1], (1,) + (0,) * greatest, (greatest,) * greatest + (0,),
                          (0, greatest) + (greatest,) * (space.size - 3) + (0,) if space.size > 2 else (1, 0)):
                self.assertIs(space.is_monotone(table), False)

    def test_one_pair_too_few_in_one_place(self):
        for space, _, _ in self.spaces(SMALL):
            for place in range(1, space.size):
                table = [space.size - 1] * space.size
                table[place] = space.size - 2
                self.assertIs(space.is_monotone(tuple(table)), False)
                table = [0] * space.size
                table[place] = 1
                self.assertIs(space.is_monotone(tuple(table)), place == space.size - 1)

    def test_composed(self):
        for space, _, _ in self.spaces():
            every = tuple(range(space.size))
            turned = every[::-1]
            shifted = every[1:] + every[:1]
            self.assert_same(space.composed(every, shifted), shifted)
            self.assert_same(space.composed(shifted, every), shifted)
            self.assert_same(space.composed(turned, turned), every)
            self.assert_same(space.composed(turned, shifted), tuple(turned[relation] for relation in shifted))
            self.assert_same(space.composed((0,) * space.size, shifted), (0,) * space.size)
            self.assert_same(space.composed(shifted, (0,) * space.size), (1,) * space.size)

    def test_what_is_no_table(self):
        for space, _, _ in self.spaces(SMALL + [(2, True)]):
            right = (0,) * space.size
            for value in self.no_tables(space):
                self.assert_raises(InvalidMeaning, space.is_monotone, value)
                self.assert_raises(InvalidMeaning, space.composed, value, right)
                self.assert_raises(InvalidMeaning, space.composed, right, value)
                self.assert_raises(InvalidMeaning, space.composed, value, value)

    def test_tables_of_other_spaces(self):
        for modes, watched in ALL:
            for other_modes, other_watched in ALL:
                space, other = Space(modes, watched=watched), Space(other_modes, watched=other_watched)
                self.assertIs(space.is_table((0,) * other.size), space == other)


class ExampleTest(PromiseTest):
    def test_examples(self):
        space = Space(2)
        self.assert_same(
            [space.size, space.same, space.pairs(6), space.relation(((1, 0), (0, 1))), space.followed(6, 6),
             space.either(6, 9), Space(2, watched=True).ends, Space(2, watched=True).size],
            [16, 9, ((0, 1), (1, 0)), 6, 9, 15, 3, 64])
        table = (0,) * 8 + (1,) * 8
        self.assert_same(
            [Space(2, watched=True).pairs(4), Space(1, watched=True).followed(2, 0), space.is_within(1, 9),
             space.is_monotone(table), space.composed(table, table) == (0,) * 16],
            [((0, 2),), 2, True, True, True])

    def test_spaces_never_change(self):
        space = Space(2, watched=True)
        before = picture(space)
        space.pairs(5), space.relation(((0, 1),)), space.followed(1, 2), space.either(1, 2), space.is_within(1, 2)
        space.is_table(()), space.is_monotone((0,) * 64), space.composed((0,) * 64, (1,) * 64)
        self.assert_raises(InvalidNumber, space.pairs, 64, value=64)
        self.assertEqual(picture(space), before)


if __name__ == "__main__":
    unittest.main()
