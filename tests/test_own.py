"""What is handed in is neither changed nor kept, and what is told is the asker's own."""

import unittest

from roundsum.errors import RoundError
from roundsum.shapes import holds, hull, is_shape, reach, sides
from roundsum.sums import greater, taken_off, together
from tests.catalog import NO_SHAPES, SHAPES

# Among these are calls whose answer is a shape that was handed in.
ONE_LIST = {
    "is_shape": is_shape,
    "sides": sides,
    "hull": hull,
    "holds": lambda corners: holds(corners, (1, 1)),
    "reach": lambda corners: reach(corners, (2, -1)),
    "nought times": lambda corners: greater(corners, 0),
    "once": lambda corners: greater(corners, 1),
    "twice": lambda corners: greater(corners, 2),
    "too often": lambda corners: greater(corners, -1),
}
TWO_LISTS = {"together": together, "taken_off": taken_off}


def told(call, *lists):
    try:
        return call(*lists)
    except RoundError as error:
        return error.__class__


def told_list(answer):
    if isinstance(answer, tuple) and isinstance(answer[1], list):
        return answer[1]
    return answer if isinstance(answer, list) else None


class Own(unittest.TestCase):
    def calls(self):
        lists = list(SHAPES) + [[(0, 0)]]
        for name, call in ONE_LIST.items():
            for corners in lists + list(NO_SHAPES.values()):
                yield name, call, [corners]
        for name, call in TWO_LISTS.items():
            for one in lists:
                for other in lists + [NO_SHAPES["a dent"], NO_SHAPES["empty"]]:
                    yield name, call, [one, other]
                    yield name, call, [other, one]

    def test_handed_in_is_not_changed(self):
        for name, call, lists in self.calls():
            handed = [list(corners) for corners in lists]
            told(call, *handed)
            self.assertEqual(handed, lists, name)

    def test_told_is_not_a_list_handed_in_nor_kept(self):
        for name, call, lists in self.calls():
            handed = [list(corners) for corners in lists]
            answer = told_list(told(call, *handed))
            if answer is None:
                continue
            was = list(answer)
            answer.append((99, 99))
            answer[0] = (77, 77)
            self.assertEqual(handed, lists, name)
            self.assertEqual(told_list(told(call, *handed)), was, name)

    def test_handed_in_may_change_later(self):
        for name, call, lists in self.calls():
            handed = [list(corners) for corners in lists]
            answer = told_list(told(call, *handed))
            if answer is None:
                continue
            was = list(answer)
            for corners in handed:
                corners.append((99, 99))
                corners[0] = (77, 77)
            self.assertEqual(answer, was, name)
            self.assertEqual(told_list(told(call, *[list(corners) for corners in lists])), was, name)

    def test_one_list_in_both_places(self):
        for corners in SHAPES:
            handed = list(corners)
            both = together(handed, handed)
            self.assertEqual(handed, corners)
            self.assertEqual(both, greater(corners, 2))
            self.assertEqual(taken_off(handed, handed), ("yes", [(0, 0)]))
            self.assertEqual(handed, corners)

    def test_kinds(self):
        for name, call, lists in self.calls():
            answer = told_list(told(call, *[list(corners) for corners in lists]))
            if answer is not None:
                self.assertIs(answer.__class__, list, name)
                for pair in answer:
                    self.assertIs(pair.__class__, tuple, name)
                    self.assertEqual([number.__class__ for number in pair], [int, int], name)
