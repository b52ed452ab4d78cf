"""What holds over the whole program: the interface, and that what is told is the asker's own (points 1 and 2)."""

import copy
import importlib
import inspect
import unittest

from patchsquare.checks import checks_for
from patchsquare.laying import laid_square
from patchsquare.pictures import picture_of
from patchsquare.turning import turned_square
from patchsquare.wrapping import wrapped_grains
from patchsquare.writing import written_at

# By module and function: the names of the arguments.
INTERFACE = {
    "bits": {"bits_of": "number count", "number_of": "bits"},
    "pieces": {"piece_bits": "piece", "read_pieces": "bits"},
    "cutting": {"cut_text": "text"},
    "grains": {"text_grains": "text room", "read_grains": "grains"},
    "field": {"times_of": "a b", "inverse_of": "a", "power_of": "a k", "worth_at": "grains x"},
    "checks": {"checks_for": "data count", "is_code": "grains count"},
    "mending": {"mended_row": "grains missing count"},
    "blocks": {"block_shapes": "size level", "data_room": "size level", "dealt_rows": "rows",
               "parted_rows": "grains counts"},
    "wrapping": {"wrapped_grains": "data size level", "unwrapped_grains": "grains missing size level"},
    "floor": {"mark_cells": "size", "ruler_cells": "size", "label_places": "size", "data_places": "size"},
    "labels": {"label_bits": "level mask", "read_label": "cells"},
    "masks": {"turns_over": "mask row column"},
    "laying": {"laid_square": "grains size level mask", "taken_grains": "square mask"},
    "faults": {"square_faults": "square", "best_mask": "grains size level"},
    "turning": {"turned_square": "square turn", "turned_back": "square turn", "found_turn": "square"},
    "writing": {"written_at": "text size level mask", "written_square": "text level"},
    "reading": {"read_square": "square"},
    "pictures": {"picture_of": "square", "read_picture": "picture"},
    "reports": {"report_on": "picture"},
}


def function_of(module, name):
    return getattr(importlib.import_module("patchsquare." + module), name)


# A square with wrong and missing cells in its marks, its label and its blocks.
def spoilt_square():
    square = written_at("Whole", 23, 1, 6)
    square[0][0] = 0
    square[22][22] = None
    square[5][1] = None
    square[10][10] = None
    square[12][12] = 1 - square[12][12]
    return turned_square(square, 6)


# For each function one or more calls; the first value told by each is compared with later ones.
def calls():
    square = spoilt_square()
    row = [5, 7, 9] + checks_for([5, 7, 9], 4)
    wrapped = wrapped_grains(list(range(44)), 23, 1)
    laid = laid_square(wrapped, 23, 1, 3)
    return {
        "bits_of": [(5, 4), (0, 0)],
        "number_of": [([1, 0, 1],), ([],)],
        "piece_bits": [((1, "1234"),), ((2, "AB"),), ((3, "ab"),)],
        "read_pieces": [([0, 1, 0, 0, 0, 0, 0, 0, 0, 1, 1, 1, 0, 0, 1],)],
        "cut_text": [("",), ("ab12345678",)],
        "text_grains": [("", 1), ("ab12345678", 30)],
        "read_grains": [([0, 42, 21],), ([16, 7, 0, 42],)],
        "times_of": [(1, 1), (37, 0), (0, 1), (9, 33)],
        "inverse_of": [(1,), (2,)],
        "power_of": [(0, 0), (1, 5), (2, 10 ** 9)],
        "worth_at": [([1, 2, 3], 2), ([], 5)],
        "checks_for": [([1, 2, 3], 4), ([0], 1)],
        "is_code": [(row, 4), ([1, 2, 3], 2)],
        "mended_row": [(row, [], 4), (row, [0, 6], 4), ([5, 9] + row[2:], [6], 4)],
        "block_shapes": [(15, 0), (31, 3)],
        "data_room": [(15, 0), (31, 3)],
        "dealt_rows": [([[1, 2, 3]],), ([[1], [], [2, 3]],)],
        "parted_rows": [([1, 2, 3], [3]), ([1, 2, 3], [1, 0, 2]), ([], [0, 0])],
        "wrapped_grains": [(list(range(12)), 15, 0), (list(range(44)), 23, 1)],
        "unwrapped_grains": [(wrapped, [], 23, 1), (wrapped, [0, 5, 63], 23, 1)],
        "mark_cells": [(15,), (31,)],
        "ruler_cells": [(15,), (31,)],
        "label_places": [(15,), (31,)],
        "data_places": [(15,), (31,)],
        "label_bits": [(0, 0), (3, 6)],
        "read_label": [([0] * 16,), ([1] * 14 + [0, None],)],
        "turns_over": [(mask, row, 3) for mask in range(8) for row in range(4)],
        "laid_square": [([42] * 16, 15, 0, 1), (wrapped, 23, 1, 3)],
        "taken_grains": [(laid, 3), ([[None] * 15 for _ in range(15)], 0)],
        "square_faults": [(laid,), ([[0] * 15 for _ in range(15)],)],
        "best_mask": [([42] * 16, 15, 0)],
        "turned_square": [(square, turn) for turn in range(8)],
        "turned_back": [(square, turn) for turn in range(8)],
        "found_turn": [(square,), (laid,)],
        "written_at": [("Whole", 23, 1, 6), ("", 15, 3, 0)],
        "written_square": [("Whole", 1), ("", 0)],
        "read_square": [(square,), (written_at("", 15, 0, 0),)],
        "picture_of": [(square,), (laid,)],
        "read_picture": [(picture_of(square),)],
        "report_on": [(picture_of(square),)],
    }


# All lists in a value, itself and within lists and tuples.
def lists_in(value):
    if not isinstance(value, (list, tuple)):
        return []
    inner = [one for part in value for one in lists_in(part)]
    return inner + [value] if isinstance(value, list) else inner


def numbers_in(value):
    if isinstance(value, (list, tuple)):
        return [number for part in value for number in numbers_in(part)]
    return [] if value is None or isinstance(value, str) else [value]


def spoil(value):
    for one in lists_in(value):
        one.reverse()
        one.append("spoilt")


def named_calls():
    for module, functions in INTERFACE.items():
        for name in functions:
            for number in range(len(calls()[name])):
                yield module, name, number


class TestInterface(unittest.TestCase):
    def test_names_and_arguments(self):
        for module, functions in INTERFACE.items():
            for name, arguments in functions.items():
                with self.subTest(module=module, name=name):
                    self.assertEqual(list(inspect.signature(function_of(module, name)).parameters), arguments.split())

    def test_each_function_is_called_here(self):
        names = [name for functions in INTERFACE.values() for name in functions]
        self.assertEqual(sorted(names), sorted(calls()))


class TestTheAskersOwn(unittest.TestCase):
    def test_nothing_that_is_handed_in_is_changed(self):
        for module, name, number in named_calls():
            with self.subTest(name=name, number=number):
                handed = calls()[name][number]
                before = copy.deepcopy(handed)
                function_of(module, name)(*handed)
                self.assertEqual(handed, before)

    def test_every_told_list_is_one_of_its_own(self):
        for module, name, number in named_calls():
            with self.subTest(name=name, number=number):
                handed = calls()[name][number]
                first = function_of(module, name)(*handed)
                second = function_of(module, name)(*handed)
                lists = lists_in(first) + lists_in(second)
                self.assertEqual(len({id(one) for one in lists}), len(lists))
                self.assertEqual({id(one) for one in lists} & {id(one) for one in lists_in(handed)}, set())

    def test_a_changed_told_list_changes_nothing_else(self):
        for module, name, number in named_calls():
            with self.subTest(name=name, number=number):
                handed = calls()[name][number]
                before = copy.deepcopy(handed)
                told = function_of(module, name)(*handed)
                expected = copy.deepcopy(told)
                spoil(told)
                self.assertEqual(handed, before)
                self.assertEqual(function_of(module, name)(*handed), expected)

    def test_a_changed_handed_list_changes_nothing_that_was_told(self):
        for module, name, number in named_calls():
            with self.subTest(name=name, number=number):
                handed = calls()[name][number]
                told = function_of(module, name)(*handed)
                expected = copy.deepcopy(told)
                spoil(handed)
                self.assertEqual(told, expected)
                self.assertEqual(function_of(module, name)(*calls()[name][number]), expected)

    def test_told_numbers_are_whole_numbers(self):
        for module, name, number in named_calls():
            with self.subTest(name=name, number=number):
                told = function_of(module, name)(*calls()[name][number])
                kind = bool if name in ("is_code", "turns_over") else int
                self.assertLessEqual({type(one) for one in numbers_in(told)}, {kind})


if __name__ == "__main__":
    unittest.main()
