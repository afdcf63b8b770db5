"""What is handed in is neither changed nor kept, and what is told is the asker's own."""

import unittest

from roundsum.areas import double_area, mixed
from roundsum.errors import RoundError
from roundsum.notes import read, shown
from roundsum.parting import parted, steps_of
from roundsum.shapes import holds, hull, is_shape, reach, sides
from roundsum.sums import greater, taken_off, together
from tests.catalog import HEXAGON, HUGE, NO_SHAPES, SHAPES, TRIANGLE

# Among these are calls whose answer is a shape that was handed in.
ONE_LIST = {
    "is_shape": is_shape,
    "sides": sides,
    "hull": hull,
    "holds": lambda corners: holds(corners, (1, 1)),
    "reach": lambda corners: reach(corners, (2, -1)),
    "nought times": lambda corners: greater(corners, 0),
    "once": lambda corners: greater(corners, 1),
    "twice": lambda corners: greater(corners, 2),
    "too often": lambda corners: greater(corners, -1),
    "double_area": double_area,
    "steps_of": steps_of,
    "parted": parted,
    "shown": shown,
    "shown and read": lambda corners: read(shown(corners)),
}
TWO_LISTS = {"together": together, "taken_off": taken_off, "mixed": mixed}


def told(call, *lists):
    try:
        return call(*lists)
    except RoundError as error:
        return error.__class__


def told_lists(answer):
    things = answer if isinstance(answer, tuple) else (answer,)
    return [thing for thing in things if isinstance(thing, list)]


def copied(lists):
    return [list(things) for things in lists]


def spoil(lists):
    for things in lists:
        things.append((99, 99))
        things[0] = (77, 77)


class Own(unittest.TestCase):
    def calls(self):
        lists = list(SHAPES) + [[(0, 0)], [(5, 5), (7, 5)]]
        for name, call in ONE_LIST.items():
            for corners in lists + list(NO_SHAPES.values()):
                # The steps of this one are more than are ever asked for.
                if name != "steps_of" or corners != HUGE:
                    yield name, call, [corners]
        for name, call in TWO_LISTS.items():
            for one in lists:
                for other in lists + [NO_SHAPES["a dent"], NO_SHAPES["empty"]]:
                    yield name, call, [one, other]
                    yield name, call, [other, one]

    def test_handed_in_is_not_changed(self):
        for name, call, lists in self.calls():
            handed = copied(lists)
            told(call, *handed)
            self.assertEqual(handed, lists, name)

    def test_told_is_not_a_list_handed_in_nor_kept(self):
        for name, call, lists in self.calls():
            handed = copied(lists)
            answers = told_lists(told(call, *handed))
            were = copied(answers)
            spoil(answers)
            self.assertEqual(handed, lists, name)
            self.assertEqual(told_lists(told(call, *handed)), were, name)

    def test_handed_in_may_change_later(self):
        for name, call, lists in self.calls():
            handed = copied(lists)
            answers = told_lists(told(call, *handed))
            were = copied(answers)
            spoil(handed)
            self.assertEqual(answers, were, name)
            self.assertEqual(told_lists(told(call, *copied(lists))), were, name)

    def test_no_two_lists_told_are_one(self):
        for corners in (HEXAGON, TRIANGLE, [(5, 5), (7, 5)], [(0, 0), (2, 0)], [(0, 0), (2, 0), (2, 2), (0, 2)]):
            one, other = parted(corners)
            was = list(other)
            one.append((99, 99))
            one[0] = (77, 77)
            self.assertEqual(other, was)
            again = parted(corners)
            self.assertEqual(again[1], was)
            self.assertIsNot(again[1], other)

    def test_what_is_read_is_told_anew_each_time(self):
        for corners in SHAPES:
            text = shown(corners)
            once = read(text)
            once.append((99, 99))
            self.assertEqual(read(text), corners)

    def test_one_list_in_both_places(self):
        for corners in SHAPES:
            handed = list(corners)
            both = together(handed, handed)
            self.assertEqual(handed, corners)
            self.assertEqual(both, greater(corners, 2))
            self.assertEqual(taken_off(handed, handed), ("yes", [(0, 0)]))
            self.assertEqual(mixed(handed, handed), 2 * double_area(corners))
            self.assertEqual(handed, corners)

    def test_kinds(self):
        for name, call, lists in self.calls():
            for answer in told_lists(told(call, *copied(lists))):
                self.assertIs(answer.__class__, list, name)
                for pair in answer:
                    self.assertIs(pair.__class__, tuple, name)
                    self.assertEqual([number.__class__ for number in pair], [int, int], name)
