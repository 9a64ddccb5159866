"""Promises [9], [10], [11]."""

import copy
import itertools
import random
import unittest

from drawn import NOT_NAMES, NOT_WORTHS
from second_code import ROWS, all_met, are_wrong, bad_number, heights_of
from swiftkin import code as module
from swiftkin.code import is_heights, is_wrong, looked

GIVE = (("push", ("none",)), ("give",))
ANYTHING = [None, True, False, 0, 1, -1, "", "give", [], [[]], (), ((),), ("give",), (((("give",),),),), "code"]
# One row of each kind.
EACH = [
    ("push", ("number", 1)), ("kind", "aa"), ("deed", "do"), ("get", "me"), ("let", "me"), ("read", "word"),
    ("write", "word"), ("drop", "word"), ("above", "word"), ("call", 0), ("add",), ("less",), ("same",), ("size",),
    ("elders", 0), ("jump", 0), ("unless", 0), ("calm",), ("give",),
]


def pushes(many):
    return (("push", ("none",)),) * many


class Case(unittest.TestCase):
    def look(self, code):
        """What is told of this code is right by the second way; tell it."""
        before = copy.deepcopy(code)
        told = looked(code)
        self.assertEqual(repr(code), repr(before))
        self.assertIs(type(told), tuple)
        self.assertEqual(len(told), 2)
        number = bad_number(code)
        if number is not None:
            self.assertEqual(told, ("bad", number))
            self.assertIs(type(told[1]), int)
            for some in ([0], [None], []):
                self.assertIs(is_heights(code, some), False)
                self.assertIs(is_wrong(code, [some]), False)
            return told
        heights = heights_of(code)
        if heights is not None:
            self.assertEqual(told, ("right", heights))
            self.assertIs(is_heights(code, told[1]), True)
        else:
            self.assertEqual(told[0], "wrong")
            self.assertIs(type(told[1]), list)
            self.assertIs(are_wrong(code, told[1]), True)
            self.assertIs(is_wrong(code, told[1]), True)
        lists = lists_within(told)
        self.assertEqual(len({id(one) for one in lists}), len(lists))
        return told

    def right(self, rows, heights, guards=()):
        code = (tuple(rows), tuple(guards))
        self.assertEqual(self.look(code), ("right", heights))

    def bad(self, code, number):
        self.assertEqual(self.look(code), ("bad", number))

    def wrong(self, rows, *ways, guards=()):
        """This code is wrong, and each of these ways shows it."""
        code = (tuple(rows), tuple(guards))
        self.assertEqual(self.look(code)[0], "wrong")
        for way in ways:
            self.assertIs(is_wrong(code, way), True, way)


def lists_within(thing):
    if isinstance(thing, (list, tuple)):
        return [thing] * isinstance(thing, list) + [one for part in thing for one in lists_within(part)]
    return []


class Interface(unittest.TestCase):
    def test_where_they_are_defined(self):
        for one in (looked, is_heights, is_wrong):
            self.assertEqual(one.__module__, module.__name__)


class Bad(Case):
    def test_no_tuple_of_two_tuples(self):
        for code in ANYTHING + [(GIVE,), (GIVE, (), ()), [GIVE, ()], (list(GIVE), ()), (GIVE, []), (GIVE, None),
                                (None, ()), ((), ()), ((), ((0, 1, 0, 0),)), (GIVE, "", ()), ("", ""), (0, 1)]:
            self.bad(code, 0)

    def test_rows_of_each_kind(self):
        for row in EACH:
            self.assertNotEqual(self.look(((row,) + GIVE, ()))[0], "bad", row)
            self.assertNotEqual(self.look((GIVE + (row,), ()))[0], "bad", row)

    def test_a_part_less_or_more(self):
        for row in EACH:
            for bent in [row[:-1], row + (0,), row + ("aa",), row + row[-1:], row + (None,), row * 2, list(row),
                         (row,)]:
                self.bad(((bent,) + GIVE, ()), 0)
                self.bad((GIVE + (bent,), ()), 2)

    def test_parts_of_another_kind(self):
        others = NOT_NAMES + NOT_WORTHS + [2, 3, 4, 5, 39, 40, ("none",), ("thing", 0), ("kind", "aa"), ("deed", "do"),
                                           ("gate", "do", None), ("bound", "do", "aa", ("none",)), "aa", ("not",)]
        for row in EACH:
            for part in others:
                bent = row[:1] + (part,)
                self.look((GIVE + (bent,), ()))
                self.look(((bent,) + GIVE, ()))

    def test_words_of_no_row(self):
        for word in ANYTHING + NOT_NAMES + ["Push", "pushes", "set", "kinds", "rows", "name", "none"]:
            if word != "give":
                self.bad((GIVE + ((word,),), ()), 2)
                self.bad((GIVE + ((word, "aa"),), ()), 2)
            if word != ("give",):
                self.bad((GIVE + (word,), ()), 2)

    def test_by_hand(self):
        self.bad(((("push", ("kind", "aa")), ("give",)), ()), 0)
        self.bad(((("push", ("number", True)), ("give",)), ()), 0)
        self.bad(((("push", ("text", "x" * 21)), ("give",)), ()), 0)
        self.bad(((("kind", "AA"), ("give",)), ()), 0)
        self.bad((GIVE + (("read", "abcdefghi"),), ()), 2)
        for n in (-1, 5, 40, True, False, None, "0", "a", ()):
            self.bad((GIVE + (("call", n),), ()), 2)
            self.bad((GIVE + (("elders", n),), ()), 2)
        for r in (-1, 3, 40, True, False, None, "0"):
            self.bad((GIVE + (("jump", r),), ()), 2)
            self.bad((GIVE + (("unless", r),), ()), 2)
        for n in range(5):
            self.assertNotEqual(looked((GIVE + (("call", n), ("elders", n)), ()))[0], "bad")
        for r in range(4):
            self.assertNotEqual(looked((GIVE + (("jump", r), ("unless", r)), ()))[0], "bad")

    def test_the_first_bad_row(self):
        self.bad((GIVE + (("no",), ("jump", 99), ("give",)), ((5, 1, 0, 0),)), 2)
        self.bad(((("jump", 5), ("no",)), ()), 0)

    def test_forty_rows_and_forty_one(self):
        rows = (("calm",),) * 38 + GIVE
        self.right(rows, [0] * 39 + [1])
        self.bad((rows + (("give",),), ()), 40)
        self.bad((rows + (("no",), None, 7), ("guard",)), 40)
        self.bad((rows[:17] + (("no",),) + rows[17:], ()), 17)
        # A jump to a row that is one too many is as it must be; one beyond it isn't.
        for r in (39, 40, 43, 44):
            self.bad(((("jump", r),) + rows + GIVE + GIVE[:1], ()), 40 if r < 44 else 0)
            self.bad(((("unless", r),) + rows + GIVE + GIVE[:1], ()), 40 if r < 44 else 0)

    def test_eight_guards_and_nine(self):
        guard = (0, 1, 1, 0)
        for many in range(9):
            self.right(GIVE, [0, 1], guards=(guard,) * many)
        for many in (9, 10, 20):
            self.bad((GIVE, (guard,) * many), 10)
        self.bad((GIVE, (guard,) * 8 + (None,)), 10)
        self.bad((GIVE, (guard,) * 7 + (None, guard)), 9)
        self.bad((GIVE, (guard,) * 3 + ((0, 3, 1, 0),) * 7), 5)

    def test_guards_that_are_none(self):
        for guard in ANYTHING + [(0, 1, 1), (0, 1, 1, 0, 0), [0, 1, 1, 0], (0, 0, 1, 0), (1, 1, 1, 0), (2, 1, 1, 0),
                                 (0, 3, 1, 0), (-1, 1, 1, 0), (0, 1, 2, 0), (0, 1, -1, 0), (0, 1, 1, -1), (0, 1, 1, 16),
                                 (2, 3, 1, 0), (2, 2, 1, 0)]:
            self.bad((GIVE, (guard,)), 2)
            self.bad((GIVE, ((0, 1, 1, 0), guard, ())), 3)

    def test_each_part_of_a_guard(self):
        for guard in ((0, 2, 1, 0), (0, 1, 1, 15)):
            for at in range(4):
                for part in [None, True, False, "", "0", [], (), -1, 0, 1, 2, 3, 15, 16, 10 ** 20]:
                    self.look((GIVE, (guard[:at] + (part,) + guard[at + 1:],)))
        for guard in ((False, 1, 1, 0), (0, True, 1, 0), (0, 1, True, 0), (0, 1, 1, False)):
            self.bad((GIVE, (guard,)), 2)


class Right(Case):
    def test_by_hand(self):
        self.right(GIVE, [0, 1])
        self.right([("jump", 0)], [0])
        self.right([("get", "me"), ("unless", 0), ("jump", 0)], [0, 1, 0])
        self.right([("get", "me"), ("give",), ("add",), ("jump", 2)], [0, 1, None, None])
        self.right([("get", "me"), ("get", "me"), ("add",), ("give",)], [0, 1, 2, 1])
        self.right([("get", "me"), ("unless", 4), ("get", "me"), ("give",), ("jump", 2)], [0, 1, 0, 1, 0])

    def test_what_each_row_takes_and_puts(self):
        for row in EACH + [("call", 4), ("call", 3), ("elders", 4), ("elders", 2)]:
            if row[0] in ("jump", "unless", "give"):
                continue
            takes = {"call": lambda: row[1] + 1, "elders": lambda: row[1] + 1}.get(row[0], lambda: ROWS[row[0]][1])()
            puts = ROWS[row[0]][2]
            code = pushes(takes) + (row,) + pushes(1) + (("give",),)
            self.right(code, list(range(takes + 1)) + [puts, puts + 1])
            if takes:
                self.wrong(pushes(takes - 1) + (row,) + pushes(1) + (("give",),), [list(range(takes))])

    def test_give_ends_whatever_is_left(self):
        self.right(pushes(16) + (("give",),), list(range(17)))
        self.right(pushes(3) + (("give",),), list(range(4)))

    def test_heights_up_to_sixteen(self):
        self.right(pushes(16) + (("jump", 16),), list(range(17)))
        self.wrong(pushes(17) + (("jump", 17),), [list(range(17))])
        self.right(pushes(16) + (("read", "word"), ("give",)), list(range(17)) + [16])

    def test_guards(self):
        self.right([("get", "me"), ("give",), ("give",)], [0, 1, 1], guards=[(0, 1, 2, 0)])
        self.right([("get", "me"), ("give",), ("give",)], [0, 1, None], guards=[(2, 3, 2, 0)])
        # The first guard that has the row is the one, also where the second can't be.
        self.right([("get", "me"), ("give",), ("give",)], [0, 1, 1], guards=[(0, 1, 2, 0), (0, 3, 2, 0)])
        self.right([("get", "me"), ("give",), ("give",)], [0, 1, 1], guards=[(0, 1, 2, 0), (0, 1, 2, 1)])
        # A guard has each row from first on and below last, whether this can fall or not.
        self.right([("calm",), ("push", ("none",)), ("give",), ("give",)], [0, 0, 1, 1], guards=[(0, 1, 3, 0)])
        # What r has is one more than the guard's height.
        self.right(pushes(3) + (("give",), ("add",), ("give",)), [0, 1, 2, 3, 2, 1], guards=[(2, 4, 4, 1)])
        self.right(pushes(16) + (("give",), ("give",)), list(range(17)) + [16], guards=[(16, 17, 17, 15)])

    def test_no_other_list_is_right(self):
        codes = [(GIVE, ()), (tuple(pushes(2)) + (("add",), ("give",), ("calm",)), ()),
                 ((("get", "me"), ("give",), ("give",)), ((0, 1, 2, 0),)), ((("jump", 0), ("give",)), ())]
        for code in codes:
            heights = self.look(code)[1]
            some = [None, 0, 1, 2, 3, 16, 17, -1]
            for other in itertools.chain(itertools.product(some, repeat=len(heights)), [[], [0], heights[:-1],
                                         heights + [None], heights + [0], heights * 2]):
                self.assertIs(is_heights(code, list(other)), list(other) == heights)

    def test_truths_are_no_heights(self):
        code = (GIVE, ())
        for heights in ([0, True], [False, 1], [False, True], [0, "1"], [0, [1]], ["0", 1], [0, (1,)]):
            self.assertIs(is_heights(code, heights), False)
        for heights in ANYTHING + [(0, 1), {0: 0, 1: 1}]:
            self.assertIs(is_heights(code, heights), False)

    def test_code_that_is_not_right_has_none(self):
        for heights in ([0], [1], [None], [], [0, 0]):
            self.assertIs(is_heights(((("give",),), ()), heights), False)
        for code in ANYTHING:
            self.assertIs(is_heights(code, [0]), False)
            self.assertIs(is_heights(code, []), False)


class Wrong(Case):
    def test_takes_more(self):
        self.wrong([("give",)], [[0]])
        self.wrong([("push", ("none",)), ("add",), ("give",)], [[0, 1]])
        self.wrong([("get", "me"), ("get", "me"), ("call", 2), ("give",)], [[0, 1, 2]])

    def test_leaves_more(self):
        self.wrong(pushes(17) + (("give",),), [list(range(17))])

    def test_a_row_behind_the_last_one(self):
        self.wrong([("calm",)], [[0]])
        self.wrong([("push", ("none",)), ("unless", 0)], [[0, 1]])
        self.wrong([("jump", 2), ("give",), ("calm",)], [[0, 2]])

    def test_a_guard_of_more(self):
        self.wrong(GIVE, [[0]], guards=[(0, 1, 1, 1)])
        self.wrong(GIVE, [[0, 1]], guards=[(1, 2, 1, 1)])
        self.wrong(pushes(2) + (("add",), ("give",)), [[0, 1, 2]], guards=[(2, 3, 3, 1)])
        # By the first guard that has the row, and no other one.
        self.wrong(GIVE, [[0]], guards=[(0, 1, 1, 1), (0, 1, 1, 0)])

    def test_two_ways_of_unlike_heights(self):
        rows = [("get", "me"), ("jump", 0)]
        self.wrong(rows, [[0], [0, 1, 0]], [[0, 1, 0], [0]], [[0, 1], [0, 1, 0, 1]], [[0, 1, 0], [0, 1, 0, 1, 0]])
        rows = [("get", "me"), ("unless", 3), ("get", "me"), ("jump", 3)]
        self.wrong(rows, [[0, 1, 3], [0, 1, 2, 3]])

    def test_one_way_of_two_heights(self):
        # Row 2 comes behind row 1 with nothing, and by the guard with the fall's word.
        rows, guards = [("get", "me"), ("let", "me"), ("jump", 2)], [(1, 2, 2, 0)]
        self.wrong(rows, [[0, 1, 2], [0, 1, 2]], [[0, 1, 2, 2], [0, 1, 2]], guards=guards)
        code = (tuple(rows), tuple(guards))
        self.assertIs(is_wrong(code, [[0, 1, 2]]), False)
        self.assertIs(is_wrong(code, [[0, 1], [0, 1]]), False)
        # Each of the heights counts, but where it is so at a row ahead it goes no further.
        rows = [("get", "me"), ("let", "me"), ("give",)]
        self.wrong(rows, [[0, 1, 2]], [[0, 1, 2], [0, 1, 2]], guards=guards)
        rows = [("get", "me"), ("let", "me"), ("let", "me"), ("push", ("none",)), ("give",)]
        self.wrong(rows, [[0, 1, 2]], guards=guards)
        code = (tuple(rows), tuple(guards))
        self.assertIs(is_wrong(code, [[0, 1, 2, 3], [0, 1, 2, 3]]), False)
        self.assertIs(is_wrong(code, [[0, 1, 2, 3]]), False)

    def test_ways_through_what_is_so(self):
        code = ((("give",), ("give",)), ((0, 1, 1, 0),))
        self.assertIs(is_wrong(code, [[0]]), True)
        self.assertIs(is_wrong(code, [[0, 1]]), False)
        code = ((("let", "me"), ("jump", 0)), ())
        self.assertIs(is_wrong(code, [[0, 1, 0]]), False)
        code = ((("calm",), ("add",), ("add",), ("jump", 0)), ())
        self.assertIs(is_wrong(code, [[0, 1]]), True)
        self.assertIs(is_wrong(code, [[0, 1, 2]]), False)
        self.assertIs(is_wrong(code, [[0, 1, 2], [0, 1, 2]]), False)

    def test_what_is_no_way(self):
        code = ((("get", "me"), ("jump", 0), ("give",)), ())
        for ways in ([[1]], [[0, 2]], [[0, 0]], [[2]], [[3]], [[-1]], [[0, 1, 2]], [[0, 3]], [[0, -1]], [[1], [0, 1]],
                     [[0], [0]], [[0], [0, 1]], [[0, 1, 0]], [[0, 1], [0, 1, 0]], [[0, 1, 0], [1, 0]], [[-3], [0]],
                     [[0], [0, 1, 0], [0]], [], [[], [0]], [[]], [[], []], [[0, 40]], [[10 ** 20]]):
            self.assertIs(is_wrong(code, ways), False, ways)
        self.assertIs(is_wrong(code, [[0], [0, 1, 0]]), True)

    def test_what_is_no_list_of_lists(self):
        code = ((("get", "me"), ("jump", 0)), ())
        for ways in ANYTHING + [([0], [0, 1, 0]), [(0,), [0, 1, 0]], [[0], (0, 1, 0)], [[False], [0, 1, 0]],
                                [[0], [0, True, 0]], [[0], ["0"]], [[0], [[0]]], [[0], [None]], [[0], None], [0]]:
            self.assertIs(is_wrong(code, ways), False, ways)
        code = ((("give",),), ())
        for ways in ([[False]], [[0.0]], [["0"]], [[None]], [0], [None], [(0,)], ([0],)):
            self.assertIs(is_wrong(code, ways), False, ways)

    def test_right_code_has_none(self):
        for code in ((GIVE, ()), (GIVE, ((0, 1, 1, 0),)), ((("jump", 0),), ())):
            for ways in itertools.product([[0], [0, 1], [0, 0], [1]], repeat=2):
                self.assertIs(is_wrong(code, list(ways)), False)
                self.assertIs(is_wrong(code, [ways[0]]), False)

    def test_bad_code_has_none(self):
        for code in ANYTHING:
            self.assertIs(is_wrong(code, [[0]]), False)
            self.assertIs(is_wrong(code, [[0], [0, 1]]), False)


class Drawn(Case):
    def draw(self, source):
        """Draw a code, one that is not bad as a rule."""
        many = source.choice([1, 2, 3, 4, 5, 6, 8, 12])
        sorts = ["push"] * 8 + ["calm", "jump", "unless", "unless", "add", "let", "call", "elders", "read", "give"]
        parts = {"push": ("none",), "let": "me", "read": "word"}
        rows = []
        for _ in range(many):
            word = source.choice(sorts)
            if word in ("jump", "unless"):
                rows.append((word, source.randrange(many)))
            elif word in ("call", "elders"):
                rows.append((word, source.choice([0, 0, 0, 1, 2])))
            else:
                rows.append((word, parts[word]) if word in parts else (word,))
        if source.random() < 0.7:
            rows[-1] = ("give",) if source.random() < 0.5 else ("jump", source.randrange(many))
        guards = []
        for _ in range(source.choice([0, 0, 1, 1, 2, 3])):
            first = source.randrange(many)
            last = source.randrange(first, many) + 1
            guards.append((first, last, source.randrange(many), source.choice([0, 0, 0, 1, 2])))
        return (tuple(rows), tuple(guards))

    def test_drawn_codes(self):
        source = random.Random(11)
        told = {}
        for _ in range(6000):
            code = self.draw(source)
            word = self.look(code)[0]
            told[word] = told.get(word, 0) + 1
        self.assertGreater(told["right"], 400)
        self.assertGreater(told["wrong"], 400)

    def test_drawn_lists_against_the_second_way(self):
        source = random.Random(12)
        shown = 0
        for _ in range(3000):
            code = self.draw(source)
            many = len(code[0])
            heights = [source.choice([None, 0, 1, 2, 3]) for _ in range(many)]
            self.assertIs(is_heights(code, heights), heights == heights_of(code))
            for _ in range(6):
                ways = [self.walk(source, code) for _ in range(source.choice([1, 2, 2]))]
                self.assertIs(is_wrong(code, ways), are_wrong(code, ways), (code, ways))
                shown += are_wrong(code, ways)
        self.assertGreater(shown, 1000)

    def walk(self, source, code):
        """Draw a list of row numbers that is a way, as a rule."""
        many = len(code[0])
        way = [0] if source.random() < 0.95 else [source.randrange(many)]
        for _ in range(source.randrange(7)):
            row = code[0][way[-1]]
            comes = {"jump": list(row[1:]), "unless": [*row[1:], way[-1] + 1], "give": []}.get(row[0], [way[-1] + 1])
            comes += [guard[2] for guard in code[1] if guard[0] <= way[-1] < guard[1]]
            comes = [r for r in comes if r < many]
            if source.random() < 0.05 or not comes:
                return way + [source.randrange(many)] * (source.random() < 0.3)
            way.append(source.choice(comes))
        return way

    def test_what_is_told_bent_at_one_place(self):
        source = random.Random(13)
        for _ in range(1500):
            code = self.draw(source)
            word, told = self.look(code)
            if word == "right":
                at = source.randrange(len(told))
                for part in (None, 0, 1, 2, True, False, 16):
                    bent = told[:at] + [part] + told[at + 1:]
                    self.assertIs(is_heights(code, bent), repr(bent) == repr(told))
                self.assertIs(is_heights(code, told[:at] + told[at + 1:]), False)
                self.assertIs(is_heights(code, told[:at] + [told[at]] + told[at:]), False)
            if word == "wrong":
                number = source.randrange(len(told))
                at = source.randrange(len(told[number]))
                for part in range(-1, len(code[0]) + 1):
                    bent = copy.deepcopy(told)
                    bent[number][at] = part
                    self.assertIs(is_wrong(code, bent), self.shows(code, bent))
                    bent[number] = told[number][:at] + told[number][at + 1:]
                    self.assertIs(is_wrong(code, bent), self.shows(code, bent))
                    self.assertIs(is_wrong(code, told[:number] + told[number + 1:]),
                                  self.shows(code, told[:number] + told[number + 1:]))

    def shows(self, code, ways):
        """Tell by the second way whether these show that a code is wrong."""
        if not ways or [] in ways:
            return False
        if any(row not in range(len(code[0])) for way in ways for row in way):
            return False
        return are_wrong(code, ways)

    def test_every_small_code(self):
        """Heights by the words of [10], row by row, are right just where is_heights says so."""
        rows = [("push", ("none",)), ("let", "me"), ("jump", 0), ("unless", 2), ("give",), ("calm",)]
        guards = [(), ((0, 2, 2, 0),), ((1, 3, 1, 1),)]
        count = 0
        for three in itertools.product(rows, repeat=3):
            for guard in guards:
                code = (three, guard)
                self.look(code)
                for heights in itertools.product([None, 0, 1, 2], repeat=3):
                    right = self.by_the_words(code, list(heights))
                    self.assertIs(is_heights(code, list(heights)), right)
                    count += right
        self.assertGreater(count, 30)

    def by_the_words(self, code, heights):
        rows, guards = code
        reached = {row for row, _ in all_met(code)} if heights_of(code) is not None else None
        takes = {"push": 0, "let": 1, "jump": 0, "unless": 1, "give": 1, "calm": 0}
        if heights[0] != 0:
            return False
        for at, h in enumerate(heights):
            if h is None:
                if reached is None or at in reached:
                    return False
                continue
            word = rows[at][0]
            left = h - takes[word]
            comes = {"jump": [rows[at][-1]], "unless": [rows[at][-1], at + 1], "give": []}.get(word, [at + 1])
            having = [guard for guard in guards if guard[0] <= at < guard[1]][:1]
            if left < 0 or any(r >= 3 or heights[r] != left + (word == "push") for r in comes):
                return False
            if any(guard[3] > left or heights[guard[2]] != guard[3] + 1 for guard in having):
                return False
            if reached is not None and at not in reached:
                return False
        return reached is not None


class Lists(Case):
    def test_told_lists_changed(self):
        for code in ((GIVE, ()), ((("give",),), ()), ((("get", "me"), ("jump", 0)), ()),
                     ((("get", "me"), ("let", "me"), ("jump", 2)), ((1, 2, 2, 0),))):
            told = looked(code)
            before = copy.deepcopy(told)
            for one in lists_within(told):
                one.clear()
            self.assertEqual(looked(code), before)

    def test_handed_lists_stay(self):
        code = ((("get", "me"), ("jump", 0)), ())
        ways, heights = [[0], [0, 1, 0]], [0, 1]
        is_wrong(code, ways)
        is_heights(code, heights)
        self.assertEqual((ways, heights), ([[0], [0, 1, 0]], [0, 1]))


if __name__ == "__main__":
    unittest.main()
