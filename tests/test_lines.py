"""Promise [5], and what [3] says of it."""

import copy
import itertools
import random
import unittest

from swiftkin import lines
from swiftkin.lines import is_ring, merge

SIXTEEN = list("abcdefghijklmnop")


def line_by_the_words(rows):
    """Tell the names as [5] reckons them, word by word, or None where it stops."""
    taken = []
    while any(name not in taken for row in rows for name in row):
        left = [[name for name in row if name not in taken] for row in rows]
        free = [
            row[0] for row in left
            if row and not any(row[0] in other and other[0] != row[0] for other in left)
        ]
        if not free:
            return None
        taken.append(free[0])
    return taken


def some_order_keeps(rows):
    """Tell whether any order at all of the names keeps the order of each row."""
    names = sorted({name for row in rows for name in row})
    return any(keeps(order, rows) for order in itertools.permutations(names))


def keeps(order, rows):
    return all([name for name in order if name in row] == row for row in rows)


def ring_by_the_words(rows, demands):
    """Tell whether [5] calls this a ring, by another way than the program's."""
    ahead = {
        (row[i], row[j], number)
        for number, row in enumerate(rows)
        for j in range(len(row)) for i in range(j)
    }
    if len(demands) == 0 or any(demand not in ahead for demand in demands):
        return False
    return all(demands[k - 1][1] == demands[k][0] for k in range(len(demands)))


def arrangements(names):
    """All rows of unlike names of these."""
    return [list(row) for many in range(len(names) + 1) for row in itertools.permutations(names, many)]


def closed_ways(names, numbers, most):
    """All lists of up to so many demands that go round, of unlike names one by one."""
    for many in range(1, most + 1):
        for way in itertools.product(names, repeat=many):
            for chosen in itertools.product(numbers, repeat=many):
                yield [(way[k - 1], way[k], chosen[k]) for k in range(many)]


class Case(unittest.TestCase):
    def merged(self, rows):
        """What is told of rows, which are as they were, is right by the words."""
        before = copy.deepcopy(rows)
        told = merge(rows)
        self.assertEqual(rows, before)
        self.assertIsInstance(told, tuple)
        self.assertEqual(len(told), 2)
        self.assertIsInstance(told[1], list)
        expected = line_by_the_words(rows)
        if expected is not None:
            self.assertEqual(told, ("line", expected))
        else:
            self.assertEqual(told[0], "ring")
            self.ring(rows, told[1])
        return told

    def ring(self, rows, demands):
        for demand in demands:
            self.assertIsInstance(demand, tuple)
            self.assertEqual([type(part) for part in demand], [str, str, int])
        self.assertTrue(ring_by_the_words(rows, demands), (rows, demands))
        self.asked(rows, demands)

    def asked(self, rows, demands):
        """Ask whether it is a ring: just what the words say is told, nothing is changed."""
        before = copy.deepcopy((rows, demands))
        self.assertIs(is_ring(rows, demands), ring_by_the_words(rows, demands), (rows, demands))
        self.assertEqual((rows, demands), before)
        return is_ring(rows, demands)


class Lines(Case):
    def test_where_they_are_defined(self):
        self.assertEqual(merge.__module__, lines.__name__)
        self.assertEqual(is_ring.__module__, lines.__name__)

    def test_no_names(self):
        for rows in ([], [[]], [[], []], [[] for _ in range(16)]):
            self.assertEqual(self.merged(rows), ("line", []))

    def test_one_row(self):
        self.assertEqual(self.merged([["b"]]), ("line", ["b"]))
        self.assertEqual(self.merged([["b", "a", "c"]]), ("line", ["b", "a", "c"]))
        self.assertEqual(self.merged([SIXTEEN[::-1]]), ("line", SIXTEEN[::-1]))

    def test_the_same_row_twice(self):
        self.assertEqual(self.merged([["b", "a", "c"], ["b", "a", "c"]]), ("line", ["b", "a", "c"]))

    def test_empty_rows_between(self):
        self.assertEqual(self.merged([[], ["b", "a"], [], ["a", "c"], []]), ("line", ["b", "a", "c"]))

    def test_the_order_of_the_rows_is_that_of_the_names(self):
        self.assertEqual(self.merged([["a"], ["b"]]), ("line", ["a", "b"]))
        self.assertEqual(self.merged([["b"], ["a"]]), ("line", ["b", "a"]))
        self.assertEqual(self.merged([["x", "o"], ["y", "o"], ["x", "y"]]), ("line", ["x", "y", "o"]))
        self.assertEqual(self.merged([["x", "o"], ["y", "o"], ["y", "x"]]), ("line", ["y", "x", "o"]))

    def test_a_row_is_gone_on_with_as_long_as_it_goes(self):
        self.assertEqual(self.merged([["a", "b"], ["c", "d"]]), ("line", ["a", "b", "c", "d"]))
        self.assertEqual(self.merged([["a", "d"], ["b", "c", "d"]]), ("line", ["a", "b", "c", "d"]))

    def test_the_first_row_is_asked_first_again_for_each_name(self):
        # Once c is taken of the second row, b of the first one is free again.
        self.assertEqual(self.merged([["a", "b"], ["c", "b", "e"], ["d"]]), ("line", ["a", "c", "b", "e", "d"]))

    def test_an_older_family(self):
        rows = [["d", "a", "o"], ["e", "b", "o"], ["f", "a", "b", "o"], ["d", "e", "f"]]
        self.assertEqual(self.merged(rows), ("line", ["d", "e", "f", "a", "b", "o"]))
        rows = [
            ["ka", "a", "b", "c", "o"], ["kb", "d", "b", "e", "o"], ["kc", "d", "a", "o"], ["ka", "kb", "kc"],
        ]
        self.assertEqual(self.merged(rows), ("line", ["ka", "kb", "kc", "d", "a", "b", "c", "e", "o"]))

    def test_each_name_stands_once(self):
        told = self.merged([["a", "b", "c"], ["b", "c", "d"], ["a", "d"], ["c"]])
        self.assertEqual(told, ("line", ["a", "b", "c", "d"]))


class Rings(Case):
    def test_rows_without_a_line(self):
        for rows in (
            [["a", "b"], ["b", "a"]],
            [["a", "b"], ["b", "c"], ["c", "a"]],
            [["x", "a", "b"], ["y", "b", "a"]],
            [["a", "b"], ["b", "c"], [], ["c", "d"], ["d", "a"]],
            [["a", "c", "b"], ["b", "d", "a"]],
        ):
            self.assertEqual(self.merged(rows)[0], "ring")

    def test_a_ring_behind_names_that_were_taken(self):
        rows = [["e", "f", "a", "b"], ["f", "b", "c"], ["c", "a"], ["z"]]
        self.assertEqual(self.merged(rows)[0], "ring")

    def test_what_leads_to_the_ring_is_no_part_of_it(self):
        # What is told must not begin with z, which only stands behind the ring's names.
        rows = [["z", "w"], ["a", "z"], ["a", "b"], ["b", "a"]]
        told = self.merged(rows)
        self.assertEqual(sorted(told[1]), [("a", "b", 2), ("b", "a", 3)])

    def test_the_numbers_count_empty_and_finished_rows(self):
        self.assertEqual(sorted(self.merged([[], ["x"], ["a", "b"], [], ["b", "a"]])[1]),
                         [("a", "b", 2), ("b", "a", 4)])


class ManyNames(Case):
    def test_sixteen_rows_alike(self):
        self.assertEqual(self.merged([list(SIXTEEN) for _ in range(16)]), ("line", SIXTEEN))

    def test_sixteen_rows_of_sixteen_unlike_names(self):
        rows = [[one + other for other in SIXTEEN] for one in SIXTEEN]
        self.assertEqual(self.merged(rows), ("line", [name for row in rows for name in row]))

    def test_sixteen_rows_turned(self):
        self.assertEqual(self.merged([SIXTEEN[k:] + SIXTEEN[:k] for k in range(16)])[0], "ring")

    def test_a_ring_of_sixteen(self):
        rows = [[SIXTEEN[k], SIXTEEN[(k + 1) % 16]] for k in range(16)]
        demands = [(SIXTEEN[k], SIXTEEN[(k + 1) % 16], k) for k in range(16)]
        self.assertEqual(sorted(self.merged(rows)[1]), demands)
        for k in range(16):
            self.assertTrue(self.asked(rows, demands[k:] + demands[:k]))
            self.assertFalse(self.asked(rows, demands[:k] + demands[k + 1:]))
        self.assertEqual(self.merged(rows[:-1]), ("line", SIXTEEN))

    def test_rows_by_one_order_have_lines(self):
        chance = random.Random(5)
        for _ in range(60):
            order = [one + other for one in "abcd" for other in SIXTEEN]
            chance.shuffle(order)
            rows = [sorted(chance.sample(order, 16), key=order.index) for _ in range(16)]
            told = self.merged(rows)
            self.assertEqual(told[0], "line")
            self.assertTrue(keeps(told[1], rows))

    def test_rows_of_any_order(self):
        chance = random.Random(6)
        sorts = []
        for _ in range(300):
            names = chance.sample(SIXTEEN, chance.randint(2, 16))
            rows = [
                chance.sample(names, chance.randint(0, min(4, len(names))))
                for _ in range(chance.randint(2, 16))
            ]
            sorts.append(self.merged(rows)[0])
        self.assertGreater(sorts.count("line"), 20)
        self.assertGreater(sorts.count("ring"), 20)


class OwnLists(unittest.TestCase):
    def test_a_told_line_is_the_askers_own(self):
        rows = [["a", "b"], ["b", "c"]]
        first = merge(rows)
        first[1].clear()
        self.assertEqual(merge(rows), ("line", ["a", "b", "c"]))
        self.assertEqual(rows, [["a", "b"], ["b", "c"]])

    def test_also_that_of_one_row_and_of_none(self):
        for rows in ([["a", "b"]], [["a"], []], [[]], []):
            first, second = merge(rows), merge(rows)
            first[1].append("z")
            self.assertEqual(merge(rows), second)
            self.assertNotIn("z", [name for row in rows for name in row])

    def test_a_told_ring_is_the_askers_own(self):
        rows = [["a", "b"], ["b", "a"]]
        first, second = merge(rows), merge(rows)
        first[1].pop()
        self.assertTrue(is_ring(rows, second[1]))
        self.assertEqual(merge(rows), second)
        self.assertEqual(rows, [["a", "b"], ["b", "a"]])

    def test_rows_changed_behind_turn_nothing(self):
        rows = [["a", "b"], ["b", "c"]]
        told = merge(rows)
        rows[0].clear()
        rows.pop()
        self.assertEqual(told, ("line", ["a", "b", "c"]))


class RingsAsked(Case):
    rows = [["a", "b", "x"], ["b", "c"], ["c", "y", "d"], ["d", "a"], ["x", "y"]]
    demands = [("a", "b", 0), ("b", "c", 1), ("c", "d", 2), ("d", "a", 3)]

    def test_a_right_one(self):
        self.assertTrue(self.asked(self.rows, self.demands))

    def test_it_may_begin_anywhere(self):
        for k in range(4):
            self.assertTrue(self.asked(self.rows, self.demands[k:] + self.demands[:k]))

    def test_it_may_go_round_twice(self):
        self.assertTrue(self.asked(self.rows, self.demands * 2))

    def test_a_demand_left_out(self):
        for k in range(4):
            self.assertFalse(self.asked(self.rows, self.demands[:k] + self.demands[k + 1:]))

    def test_a_demand_twice(self):
        for k in range(4):
            self.assertFalse(self.asked(self.rows, self.demands[:k] + self.demands[k:k + 1] + self.demands[k:]))

    def test_a_demand_exchanged_with_the_next(self):
        for k in range(4):
            demands = list(self.demands)
            demands[k - 1], demands[k] = demands[k], demands[k - 1]
            self.assertFalse(self.asked(self.rows, demands))

    def test_two_demands_exchanged_are_still_a_ring(self):
        self.assertTrue(self.asked([["a", "b"], ["b", "a"]], [("b", "a", 1), ("a", "b", 0)]))

    def test_a_demand_turned_about(self):
        for k in range(4):
            demands = list(self.demands)
            one, other, number = demands[k]
            demands[k] = (other, one, number)
            self.assertFalse(self.asked(self.rows, demands))

    def test_all_turned_about(self):
        self.assertFalse(self.asked(self.rows, self.demands[::-1]))
        self.assertFalse(self.asked(self.rows, [(b, a, n) for a, b, n in self.demands[::-1]]))

    def test_other_row_numbers(self):
        for k in range(4):
            for number in (-10 ** 9, -5, -4, -3, -2, -1, 0, 1, 2, 3, 4, 5, 6, 10 ** 9):
                demands = list(self.demands)
                demands[k] = (*demands[k][:2], number)
                self.assertEqual(self.asked(self.rows, demands), number == k)

    def test_a_row_number_counted_from_behind(self):
        rows = [["a", "b"], ["b", "a"]]
        self.assertFalse(self.asked(rows, [("a", "b", -2), ("b", "a", -1)]))
        self.assertFalse(self.asked(rows, [("a", "b", 0), ("b", "a", 2)]))

    def test_names_of_other_rows_or_none(self):
        for k in range(4):
            for name in ("x", "y", "z", "", "A", "much too long", "é"):
                demands = list(self.demands)
                # Both demands that meet at this name are turned: they still go round.
                demands[k - 1] = (demands[k - 1][0], name, demands[k - 1][2])
                demands[k] = (name, *demands[k][1:])
                self.assertFalse(self.asked(self.rows, demands))

    def test_one_name_turned(self):
        for k in range(4):
            for at in range(2):
                for name in ("a", "b", "c", "d", "x", "y", "z"):
                    demands = list(self.demands)
                    parts = list(demands[k])
                    parts[at] = name
                    demands[k] = tuple(parts)
                    self.assertEqual(self.asked(self.rows, demands), demands == self.demands)

    def test_no_demands(self):
        for rows in ([], [[]], self.rows, [["a", "b"], ["b", "a"]]):
            self.assertFalse(self.asked(rows, []))

    def test_no_rows(self):
        for rows in ([], [[]], [[], []]):
            self.assertFalse(self.asked(rows, self.demands))
            self.assertFalse(self.asked(rows, [("a", "a", 0)]))

    def test_one_demand_of_a_name_with_itself(self):
        for number in range(-2, 4):
            self.assertFalse(self.asked([["a", "b"], ["b", "a"], ["a"]], [("a", "a", number)]))

    def test_one_demand_of_two_names(self):
        self.assertFalse(self.asked([["a", "b"]], [("a", "b", 0)]))

    def test_names_far_behind_are_behind(self):
        rows = [["a", "x", "y", "b"], ["b", "z", "a"]]
        self.assertTrue(self.asked(rows, [("a", "b", 0), ("b", "a", 1)]))


class AllSmallRows(Case):
    def test_just_where_an_order_keeps_all_is_a_line(self):
        for rows in itertools.product(arrangements("abc"), repeat=3):
            self.judged([list(row) for row in rows])

    def test_also_of_four_names(self):
        for one, other in itertools.product(arrangements("abcd"), repeat=2):
            self.judged([list(one), list(other)])

    def test_also_of_four_rows(self):
        pairs = [row for row in arrangements("abcd") if len(row) == 2]
        for rows in itertools.product(pairs, repeat=4):
            self.judged([list(row) for row in rows])

    def judged(self, rows):
        word, told = self.merged(rows)
        self.assertEqual(word == "line", some_order_keeps(rows), rows)
        if word == "line":
            self.assertEqual(sorted(told), sorted({name for row in rows for name in row}))
            self.assertTrue(keeps(told, rows))
        else:
            self.assertIs(is_ring(rows, told), True)

    def test_where_a_line_is_told_nothing_is_a_ring(self):
        for rows in itertools.product(arrangements("abc"), repeat=2):
            rows = [list(row) for row in rows]
            rings = sum(self.asked_quickly(rows, ring) for ring in closed_ways("abc", range(2), 3))
            self.assertEqual(rings == 0, merge(rows)[0] == "line", rows)

    def test_any_two_demands(self):
        demands = list(itertools.product("abz", "abz", (-1, 0, 1, 2)))
        for rows in itertools.product(arrangements("ab"), repeat=2):
            rows = [list(row) for row in rows]
            for many in range(3):
                for some in itertools.product(demands, repeat=many):
                    self.asked_quickly(rows, list(some))

    def asked_quickly(self, rows, demands):
        told = is_ring(rows, demands)
        if told is not ring_by_the_words(rows, demands):
            self.fail((rows, demands))
        return told


if __name__ == "__main__":
    unittest.main()
