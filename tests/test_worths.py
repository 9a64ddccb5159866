"""Promise [4], and what [2] says of whole numbers, names and texts."""

import copy
import itertools
import re
import unittest

from swiftkin import worths
from swiftkin.worths import is_plain, is_worth

BIG = 10 ** 9

PLAIN = [
    ("none",), ("not",), ("truth", True), ("truth", False),
    ("number", 0), ("number", 7), ("number", -7),
    ("text", ""), ("text", "true"),
]
# Worths that are not plain, and not bound.
OTHERS = [
    ("kind", "kin"), ("thing", 0), ("thing", 61), ("deed", "begin"),
    ("gate", "read", None), ("gate", "read", "write"), ("gate", "one", "one"),
]


def another_way(thing):
    """Tell (is a worth, is plain), by another way than the program's."""
    if type(thing) is not tuple or not thing or type(thing[0]) is not str:
        return (False, False)
    word, *parts = thing
    forms = {
        "none": "", "truth": "b", "number": "i", "text": "t", "not": "",
        "kind": "n", "thing": "f", "deed": "n", "bound": "nnu", "gate": "nm",
    }
    checks = {
        "b": lambda x: type(x) is bool,
        "i": lambda x: type(x) is int and abs(x) <= BIG,
        "f": lambda x: type(x) is int and x >= 0,
        "t": lambda x: type(x) is str and re.fullmatch(r"[\t\n\x20-\x7e]{0,20}", x) is not None,
        "n": lambda x: type(x) is str and re.fullmatch(r"[a-z]{1,8}", x) is not None,
        "m": lambda x: x is None or checks["n"](x),
        "u": lambda x: another_way(x)[0] and x[0] != "bound",
    }
    if word not in forms or len(parts) != len(forms[word]):
        return (False, False)
    right = all(checks[form](part) for form, part in zip(forms[word], parts))
    return (right, right and word in ("none", "truth", "number", "text", "not"))


class Case(unittest.TestCase):
    def tell(self, thing, worth, plain):
        """Both answers are just these truths, and what is asked of is as it was."""
        before = copy.deepcopy(thing)
        self.assertIs(is_worth(thing), worth, thing)
        self.assertIs(is_plain(thing), plain, thing)
        # By its text, too: 1 and True are equal, but not the same.
        self.assertEqual((repr(thing), thing), (repr(before), before))

    def plain(self, *things):
        for thing in things:
            self.tell(thing, True, True)

    def unplain(self, *things):
        for thing in things:
            self.tell(thing, True, False)

    def none(self, *things):
        for thing in things:
            self.tell(thing, False, False)


class RightOnes(Case):
    def test_plain_ones(self):
        self.plain(*PLAIN)

    def test_others(self):
        self.unplain(*OTHERS)

    def test_bound_to_each(self):
        for worth in PLAIN + OTHERS:
            self.unplain(("bound", "deed", "home", worth))

    def test_where_they_are_defined(self):
        self.assertEqual(is_worth.__module__, worths.__name__)
        self.assertEqual(is_plain.__module__, worths.__name__)


class Bounds(Case):
    def test_numbers(self):
        for n in (BIG, BIG - 1, -BIG, 1 - BIG, 1, -1):
            self.plain(("number", n))
        for n in (BIG + 1, -BIG - 1, 10 ** 30, -10 ** 30):
            self.none(("number", n))

    def test_numbers_of_things(self):
        self.unplain(("thing", 0), ("thing", 1), ("thing", BIG), ("thing", BIG + 1), ("thing", 10 ** 30))
        self.none(("thing", -1), ("thing", -BIG))

    def test_lengths_of_texts(self):
        for sign in "a ~\t\n\"\\":
            self.plain(("text", sign), ("text", 19 * sign), ("text", 20 * sign))
            self.none(("text", 21 * sign), ("text", 40 * sign))
        self.plain(("text", "\ta\n" * 6 + "\t\n"))
        self.none(("text", "\ta\n" * 7))

    def test_signs_of_texts(self):
        for number in range(0x180):
            sign = chr(number)
            ask = self.plain if sign in "\t\n" or " " <= sign <= "~" else self.none
            ask(("text", sign), ("text", "a" + sign), ("text", sign + "a"))

    def test_lengths_of_names(self):
        for many in range(12):
            name = "abcdefgzyxwv"[:many]
            ask = self.unplain if 1 <= many <= 8 else self.none
            ask(*self.with_name(name))

    def test_signs_of_names(self):
        for number in range(0x180):
            sign = chr(number)
            ask = self.unplain if "a" <= sign <= "z" else self.none
            for name in (sign, "a" + sign, sign + "a"):
                ask(*self.with_name(name))

    def with_name(self, name):
        return [
            ("kind", name), ("deed", name),
            ("gate", name, None), ("gate", name, "good"), ("gate", "good", name),
            ("bound", name, "good", ("none",)), ("bound", "good", name, ("none",)),
            ("bound", "good", "good", ("kind", name)),
        ]


class WrongParts(Case):
    def test_truths_and_numbers_are_two(self):
        self.none(("truth", 0), ("truth", 1), ("number", True), ("number", False))
        self.none(("thing", True), ("thing", False))

    def test_parts_of_another_kind(self):
        others = [None, True, 1, "word", "", (), [], ("none",), ["a"], [("none",)]]
        for right in PLAIN + OTHERS + [("bound", "deed", "home", ("none",))]:
            for at in range(len(right)):
                for other in others:
                    thing = right[:at] + (other,) + right[at + 1:]
                    self.tell(thing, *another_way(thing))

    def test_kinds_of_parts_by_hand(self):
        self.none(("truth", None), ("truth", "yes"), ("number", None), ("number", "1"))
        self.none(("text", None), ("text", 1), ("text", ["a"]), ("text", ("a",)))
        self.none(("kind", None), ("kind", 1), ("kind", ["a"]), ("deed", None), ("deed", ("a",)))
        self.none(("thing", None), ("thing", "0"), ("thing", [0]))
        self.none(("gate", None, "write"), ("gate", None, None), ("gate", "read", ""))
        self.none(("gate", "read", False), ("gate", "read", 0), ("gate", "read", ()))
        self.none(("bound", None, "home", ("none",)), ("bound", "deed", None, ("none",)))
        self.none(("bound", "deed", "home", None), ("bound", "deed", "home", "none"))

    def test_a_part_fewer_or_more(self):
        for right in PLAIN + OTHERS + [("bound", "deed", "home", ("none",))]:
            self.none(right[:-1])
            for more in (None, True, 0, "word", (), ("none",), []):
                self.none(right + (more,), right[:1] + right + (more,))

    def test_another_word_first(self):
        for right in PLAIN + OTHERS + [("bound", "deed", "home", ("none",))]:
            for word in ("", "None", "nones", "word", "numbers", "Kind", 0, None, True, (), ["none"]):
                self.none((word,) + right[1:])

    def test_the_words_of_other_sorts_first(self):
        sorts = ["none", "truth", "number", "text", "not", "kind", "thing", "deed", "bound", "gate"]
        for right in PLAIN + OTHERS + [("bound", "deed", "home", ("none",))]:
            for word in sorts:
                thing = (word,) + right[1:]
                self.tell(thing, *another_way(thing))

    def test_a_list_in_the_place_of_a_tuple(self):
        for right in PLAIN + OTHERS:
            self.none(list(right), [right], (right,))
            self.none(("bound", "deed", "home", list(right)), ["bound", "deed", "home", right])

    def test_bound_to_what_is_no_worth(self):
        for wrong in (("number", True), ("thing", -1), ("kind", "A"), ("gate", "read"), (), ("worth",)):
            self.none(("bound", "deed", "home", wrong))

    def test_bound_to_a_bound_one(self):
        for worth in PLAIN + OTHERS:
            self.none(("bound", "deed", "home", ("bound", "deed", "home", worth)))


class Anything(Case):
    def test_what_is_no_tuple(self):
        self.none(None, True, False, 0, 1, -1, 10 ** 20, "", "none", "not", "number", [], [None], ["none"])
        self.none((), ((),), (None,), (0,), ([],), [()])

    def test_eight_within_one_another(self):
        for wrap in (lambda x: (x,), lambda x: [x], lambda x: ("bound", "deed", "home", x), lambda x: ("text", x)):
            thing = ("none",)
            for _ in range(7):
                thing = wrap(thing)
            self.none(thing)

    def test_all_small_things(self):
        words = ["none", "truth", "number", "text", "not", "kind", "thing", "deed", "bound", "gate", "word", None]
        parts = [None, True, 0, -1, BIG + 1, "", "aa", "aaaaaaaaa", "a b", "\t" * 20,
                 ("none",), ["none"], ("thing", 2), ("bound", "a", "b", ("none",))]
        right = 0
        for many in range(4):
            for some in itertools.product(parts, repeat=many):
                for word in words:
                    thing = (word,) + some
                    self.tell(thing, *another_way(thing))
                    right += is_worth(thing)
        self.assertEqual(right, 18)


if __name__ == "__main__":
    unittest.main()
