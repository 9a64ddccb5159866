"""The refusals, as the interface of the document lists them."""

import unittest

from swiftkin import errors
from swiftkin.errors import (
    Full, KinError, NoChange, NoCode, NoDeed, NoKind, NoLine, NoName, NoPaper,
    NoSource, NoSteps, NoThing, NoWord, NoWorth, Round, TooBig,
)

OF_A_TEXT = [NoName, NoKind, NoThing, NoDeed, NoWord, NoWorth, NoSteps, NoPaper, Round, Full, TooBig]


def of_each():
    """Make one refusal of each class."""
    return [made("what is wrong") for made in OF_A_TEXT] + [
        NoLine("kin", [["a", "b"], ["b", "a"]], [("a", "b", 0), ("b", "a", 1)]),
        NoCode(("wrong", [[0, 1], [0, 2, 1]])),
        NoSource(3),
        NoChange(4),
    ]


class Classes(unittest.TestCase):
    def test_each_stands_right_under_the_one(self):
        self.assertEqual(KinError.__bases__, (ValueError,))
        for refusal in of_each():
            self.assertEqual(type(refusal).__bases__, (KinError,))
            self.assertEqual(type(refusal).__module__, errors.__name__)

    def test_each_is_caught_by_its_own_name_and_by_no_other(self):
        classes = [type(refusal) for refusal in of_each()]
        self.assertEqual(len(set(classes)), 15)
        for refusal in of_each():
            self.assertIsInstance(refusal, KinError)
            self.assertIsInstance(refusal, ValueError)
            self.assertEqual([one for one in classes if isinstance(refusal, one)], [type(refusal)])

    def test_each_can_be_raised(self):
        for refusal in of_each():
            with self.assertRaises(type(refusal)) as caught:
                raise refusal
            self.assertIs(caught.exception, refusal)
            self.assertIsInstance(str(refusal), str)

    def test_those_of_a_text_show_it(self):
        for made in OF_A_TEXT + [KinError]:
            self.assertEqual(str(made("no such word")), "no such word")


class Fields(unittest.TestCase):
    def test_no_line(self):
        refusal = NoLine("kin", [["a", "b"], ["b", "a"]], [("a", "b", 0), ("b", "a", 1)])
        self.assertEqual(refusal.name, "kin")
        self.assertEqual(refusal.rows, [["a", "b"], ["b", "a"]])
        self.assertEqual(refusal.ring, [("a", "b", 0), ("b", "a", 1)])

    def test_no_code(self):
        for told in (("bad", 3), ("wrong", [[0, 1]]), ("wrong", [[0, 1], [0, 2, 1]]), ("right", [0, None])):
            refusal = NoCode(told)
            self.assertEqual(refusal.told, told)
            self.assertIsInstance(refusal.told, tuple)

    def test_those_of_a_number(self):
        for number in (0, 1, 200):
            self.assertEqual(NoSource(number).place, number)
            self.assertEqual(NoChange(number).number, number)

    def test_what_they_are_made_of_stays_as_it_was(self):
        rows, ring, ways = [["a", "b"], ["b", "a"]], [("a", "b", 0), ("b", "a", 1)], [[0], [1]]
        NoLine("kin", rows, ring)
        NoCode(("wrong", ways))
        self.assertEqual(rows, [["a", "b"], ["b", "a"]])
        self.assertEqual(ring, [("a", "b", 0), ("b", "a", 1)])
        self.assertEqual(ways, [[0], [1]])


def lists_within(thing):
    """Tell all lists that are reached from this, each as often as it is reached."""
    if isinstance(thing, (list, tuple)):
        found = [thing] if isinstance(thing, list) else []
        return found + [one for part in thing for one in lists_within(part)]
    return []


def lists_of(refusal):
    """Tell all lists that a refusal holds, also those that Python keeps."""
    kept = list(vars(refusal).values()) + [refusal.args]
    return lists_within(tuple(kept))


class Copies(unittest.TestCase):
    def test_lists_changed_behind_a_no_line(self):
        rows, ring = [["a", "b"], ["b", "a"]], [("a", "b", 0), ("b", "a", 1)]
        refusal = NoLine("kin", rows, ring)
        rows[0].append("c")
        rows.pop()
        ring.clear()
        self.assertEqual(refusal.rows, [["a", "b"], ["b", "a"]])
        self.assertEqual(refusal.ring, [("a", "b", 0), ("b", "a", 1)])

    def test_a_no_line_changed(self):
        rows, ring = [["a", "b"], ["b", "a"]], [("a", "b", 0), ("b", "a", 1)]
        refusal = NoLine("kin", rows, ring)
        refusal.rows[1].clear()
        refusal.rows.append([])
        refusal.ring.pop()
        self.assertEqual(rows, [["a", "b"], ["b", "a"]])
        self.assertEqual(ring, [("a", "b", 0), ("b", "a", 1)])

    def test_lists_changed_behind_a_no_code(self):
        ways = [[0, 1], [0, 2, 1]]
        refusal = NoCode(("wrong", ways))
        ways[0].append(7)
        ways.pop()
        self.assertEqual(refusal.told, ("wrong", [[0, 1], [0, 2, 1]]))

    def test_a_no_code_changed(self):
        ways = [[0, 1], [0, 2, 1]]
        refusal = NoCode(("wrong", ways))
        refusal.told[1][0].clear()
        refusal.told[1].pop()
        self.assertEqual(ways, [[0, 1], [0, 2, 1]])

    def test_nothing_handed_in_is_kept(self):
        row, ring, way = ["a"], [("a", "a", 0)], [0]
        rows, ways = [row, row], [way, way]
        handed = [row, ring, way, rows, ways]
        for refusal in (NoLine("kin", rows, ring), NoCode(("wrong", ways))):
            held = lists_of(refusal)
            self.assertTrue(held)
            self.assertFalse([one for one in held for other in handed if one is other])
            self.assertEqual(len(held), len({id(one) for one in held}))

    def test_two_share_nothing(self):
        rows, ring, told = [["a"], ["b"]], [("a", "b", 0)], ("wrong", [[0], [1]])
        pairs = [
            (NoLine("kin", rows, ring), NoLine("kin", rows, ring)),
            (NoCode(told), NoCode(told)),
        ]
        for one, other in pairs:
            held = lists_of(other)
            self.assertFalse([x for x in lists_of(one) for y in held if x is y])
        pairs[0][0].rows[0].append("c")
        pairs[1][0].told[1][0].append(5)
        self.assertEqual(pairs[0][1].rows, [["a"], ["b"]])
        self.assertEqual(pairs[1][1].told, ("wrong", [[0], [1]]))

    def test_two_of_a_text_share_nothing(self):
        for made in OF_A_TEXT + [KinError]:
            one, other = made("one"), made("other")
            one.mark = 1
            self.assertFalse(hasattr(other, "mark"))
            self.assertEqual((str(one), str(other)), ("one", "other"))


if __name__ == "__main__":
    unittest.main()
