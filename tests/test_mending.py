import itertools
import unittest
from random import Random

from patchsquare.checks import checks_for, is_code
from patchsquare.errors import NoMend
from patchsquare.field import times_of
from patchsquare.mending import mended_row


def code_row(chance, length, count):
    data = [chance.randrange(64) for _ in range(length - count)]
    return data + checks_for(data, count)


# All code rows of one length, for few data: found by the checks of each data row.
def all_code_rows(length, count):
    rows = itertools.product(range(64), repeat=length - count)
    return [list(data) + checks_for(list(data), count) for data in rows]


def spoilt(chance, row, wrong, missing):
    changed = list(row)
    for place in wrong:
        changed[place] ^= chance.randrange(1, 64)
    for place in missing:
        changed[place] = chance.randrange(64)
    return changed


def differing(row, other, missing):
    return [place for place in range(len(row)) if place not in missing and row[place] != other[place]]


# The answer by trying each code row: None where none is near enough.
def near_row(rows, grains, missing, count):
    found = []
    for row in rows:
        wrong = differing(row, grains, missing)
        if 2 * len(wrong) + len(missing) <= count:
            found.append((row, wrong))
    return found


class MendingTest(unittest.TestCase):
    def assert_refused(self, grains, missing, count):
        with self.assertRaises(NoMend) as taken:
            mended_row(grains, missing, count)
        self.assertEqual(taken.exception.block, 0)
        self.assertIs(type(taken.exception.block), int)

    def assert_refused_or_near(self, grains, missing, count):
        try:
            row, wrong = mended_row(grains, missing, count)
        except NoMend as refusal:
            self.assertEqual(refusal.block, 0)
            return False
        self.assertTrue(is_code(row, count))
        self.assertEqual(len(row), len(grains))
        self.assertEqual(wrong, differing(row, grains, missing))
        self.assertLessEqual(2 * len(wrong) + len(missing), count)
        return True


class TestMended(MendingTest):
    def test_written_out(self):
        self.assertEqual(mended_row([1, 6, 8], [], 2), ([1, 6, 8], []))
        self.assertEqual(mended_row([1, 6, 9], [], 2), ([1, 6, 8], [2]))
        self.assertEqual(mended_row([1, 0, 8], [], 2), ([1, 6, 8], [1]))
        self.assertEqual(mended_row([0, 6, 8], [], 2), ([1, 6, 8], [0]))
        self.assertEqual(mended_row([1, 6, 0], [2], 2), ([1, 6, 8], []))
        self.assertEqual(mended_row([63, 6, 0], [0, 2], 2), ([1, 6, 8], []))
        self.assertEqual(mended_row([1, 0], [1], 1), ([1, 2], []))

    def test_rows_that_are_right(self):
        chance = Random(1)
        for count in range(1, 27):
            for length in (count + 1, count + 2, 40, 63):
                row = code_row(chance, max(length, count + 1), count)
                self.assertEqual(mended_row(row, [], count), (row, []))

    def test_every_split_of_the_count_into_wrong_and_missing(self):
        chance = Random(2)
        for count in range(1, 27):
            for length in sorted({count + 1, (count + 64) // 2, 63}):
                for missing_count in range(count + 1):
                    for wrong_count in {0, 1, (count - missing_count) // 2}:
                        if 2 * wrong_count + missing_count > count:
                            continue
                        places = chance.sample(range(length), wrong_count + missing_count)
                        wrong = sorted(places[:wrong_count])
                        missing = sorted(places[wrong_count:])
                        row = code_row(chance, length, count)
                        with self.subTest(count=count, length=length, wrong=wrong, missing=missing):
                            told = mended_row(spoilt(chance, row, wrong, missing), missing, count)
                            self.assertEqual(told, (row, wrong))

    def test_one_wrong_grain_at_each_place(self):
        chance = Random(3)
        for count, length in ((2, 3), (2, 63), (3, 20), (10, 16), (26, 63)):
            row = code_row(chance, length, count)
            for place in range(length):
                grains = spoilt(chance, row, [place], [])
                self.assertEqual(mended_row(grains, [], count), (row, [place]))

    def test_one_wrong_grain_of_each_change(self):
        chance = Random(4)
        row = code_row(chance, 12, 2)
        for place in (0, 5, 11):
            for change in range(1, 64):
                grains = list(row)
                grains[place] ^= change
                self.assertEqual(mended_row(grains, [], 2), (row, [place]))

    def test_one_missing_grain_at_each_place_with_any_grain(self):
        chance = Random(5)
        for count, length in ((1, 2), (1, 63), (4, 16)):
            row = code_row(chance, length, count)
            for place in range(length):
                for grain in range(0, 64, 1 if length < 5 else 9):
                    grains = list(row)
                    grains[place] = grain
                    self.assertEqual(mended_row(grains, [place], count), (row, []))

    def test_missing_places_whose_grains_were_right(self):
        chance = Random(6)
        for count in (1, 2, 5, 12, 26):
            row = code_row(chance, 50, count)
            for missing_count in {1, count // 2, count}:
                missing = sorted(chance.sample(range(50), missing_count))
                self.assertEqual(mended_row(row, missing, count), (row, []))
                # Some of them right and some not.
                grains = spoilt(chance, row, [], missing[::2])
                self.assertEqual(mended_row(grains, missing, count), (row, []))

    def test_the_first_and_the_last_places(self):
        chance = Random(7)
        for count in (2, 3, 4, 9, 26):
            for length in (count + 1, 63):
                row = code_row(chance, length, count)
                half = count // 2
                ends = [list(range(half)), list(range(length - half, length))]
                for wrong in ends:
                    self.assertEqual(mended_row(spoilt(chance, row, wrong, []), [], count), (row, wrong))
                for missing in (list(range(count)), list(range(length - count, length)), [0, length - 1]):
                    self.assertEqual(mended_row(spoilt(chance, row, [], missing), missing, count), (row, []))
                if count > 2:
                    for wrong, missing in (([0], [length - 1]), ([length - 1], [0])):
                        told = mended_row(spoilt(chance, row, wrong, missing), missing, count)
                        self.assertEqual(told, (row, wrong))

    def test_rows_of_noughts_and_single_grains(self):
        for count in (2, 7, 26):
            for length in (count + 1, 63):
                nought = [0] * length
                self.assertEqual(mended_row(nought, [], count), (nought, []))
                for place in (0, 1, length // 2, length - 1):
                    grains = list(nought)
                    grains[place] = 1
                    self.assertEqual(mended_row(grains, [], count), (nought, [place]))
                    self.assertEqual(mended_row(grains, [place], count), (nought, []))

    def test_odd_counts_leave_one_over(self):
        chance = Random(8)
        for count in (1, 3, 5, 25):
            row = code_row(chance, 60, count)
            places = sorted(chance.sample(range(60), count // 2))
            self.assertEqual(mended_row(spoilt(chance, row, places, []), [], count), (row, places))
            missing = [next(place for place in range(60) if place not in places)]
            told = mended_row(spoilt(chance, row, places, missing), missing, count)
            self.assertEqual(told, (row, places))

    def test_by_chance(self):
        chance = Random(9)
        for _ in range(600):
            count = chance.randrange(1, 27)
            length = chance.randrange(count + 1, 64)
            missing_count = chance.randrange(count + 1)
            wrong_count = chance.randrange((count - missing_count) // 2 + 1)
            places = chance.sample(range(length), wrong_count + missing_count)
            wrong, missing = sorted(places[:wrong_count]), sorted(places[wrong_count:])
            row = code_row(chance, length, count)
            told = mended_row(spoilt(chance, row, wrong, missing), missing, count)
            self.assertEqual(told, (row, wrong))


class TestAgainstAllCodeRows(MendingTest):
    def assert_as_tried(self, rows, grains, missing, count):
        near = near_row(rows, grains, missing, count)
        self.assertLessEqual(len(near), 1)
        if near:
            self.assertEqual(mended_row(grains, missing, count), near[0])
        else:
            self.assert_refused(grains, missing, count)

    def test_one_datum(self):
        chance = Random(10)
        for count in range(1, 27):
            length = count + 1
            rows = all_code_rows(length, count)
            for _ in range(40):
                missing_count = chance.randrange(min(length, count + 1) + 1)
                wrong_count = chance.randrange(length - missing_count + 1)
                places = chance.sample(range(length), missing_count + wrong_count)
                missing = sorted(places[:missing_count])
                grains = spoilt(chance, chance.choice(rows), places[missing_count:], missing)
                self.assert_as_tried(rows, grains, missing, count)

    def test_two_data(self):
        chance = Random(11)
        for count in (1, 2, 4):
            length = count + 2
            rows = all_code_rows(length, count)
            for step in range(25):
                missing = sorted(chance.sample(range(length), step % (count + 1)))
                wrong = chance.sample([place for place in range(length) if place not in missing], 1)
                self.assert_as_tried(rows, spoilt(chance, chance.choice(rows), wrong, missing), missing, count)
                self.assert_as_tried(rows, [chance.randrange(64) for _ in range(length)], missing, count)

    def test_every_row_of_two_grains_and_one_check(self):
        rows = all_code_rows(2, 1)
        for first in range(64):
            for last in range(64):
                for missing in ([], [0], [1]):
                    if (first + last) % 4 == len(missing):
                        self.assert_as_tried(rows, [first, last], missing, 1)


class TestNotMended(MendingTest):
    def test_one_beyond_the_count_is_always_refused(self):
        # Two code rows differ at more than the count of places, so where 2 * w + m is just one above the count,
        # no other code row is near enough.
        chance = Random(12)
        for count in range(1, 27):
            for missing_count in range(count + 2):
                if (count + 1 - missing_count) % 2 == 0:
                    wrong_count = (count + 1 - missing_count) // 2
                    for length in sorted({count + 1, 45 if count < 45 else 63, 63}):
                        row = code_row(chance, length, count)
                        places = chance.sample(range(length), missing_count + wrong_count)
                        missing = sorted(places[:missing_count])
                        grains = spoilt(chance, row, places[missing_count:], missing)
                        self.assert_refused(grains, missing, count)

    def test_more_missing_places_than_checks(self):
        chance = Random(13)
        for count in (1, 2, 3, 10, 26):
            for length in (count + 1, 63):
                row = code_row(chance, length, count)
                for missing_count in {count + 1, (count + 1 + length) // 2, length}:
                    missing = sorted(chance.sample(range(length), missing_count))
                    self.assert_refused(row, missing, count)
                    self.assert_refused([0] * length, missing, count)

    def test_two_beyond_the_count_is_refused_or_near_another_row(self):
        chance = Random(14)
        refused = 0
        told = 0
        for _ in range(300):
            count = chance.randrange(1, 12)
            length = chance.randrange(count + 2, 40)
            missing_count = chance.randrange(count + 1)
            wrong_count = min((count - missing_count) // 2 + 1, length - missing_count)
            places = chance.sample(range(length), missing_count + wrong_count)
            missing = sorted(places[:missing_count])
            grains = spoilt(chance, code_row(chance, length, count), places[missing_count:], missing)
            if self.assert_refused_or_near(grains, missing, count):
                told += 1
            else:
                refused += 1
        self.assertGreater(refused, 100)
        self.assertGreater(told, 0)

    def test_rows_by_chance(self):
        chance = Random(15)
        for _ in range(200):
            count = chance.randrange(1, 27)
            length = chance.randrange(count + 1, 64)
            missing = sorted(chance.sample(range(length), chance.randrange(min(length, count + 1) + 1)))
            self.assert_refused_or_near([chance.randrange(64) for _ in range(length)], missing, count)

    def test_another_code_row_is_told_where_it_is_the_near_one(self):
        chance = Random(16)
        for count in (2, 4, 6, 10, 26):
            # Of one datum and its checks no grain is 0, so two such rows differ at count + 1 places.
            one = [1] + checks_for([1], count)
            other = [times_of(grain, 37) for grain in one]
            self.assertEqual(differing(one, other, []), list(range(count + 1)))
            half = count // 2
            grains = one[:half] + other[half:]
            self.assertEqual(mended_row(grains, [], count), (other, list(range(half))))
            shift = chance.randrange(5)
            behind = [0] * shift
            self.assertEqual(mended_row(behind + grains + behind, [], count),
                             (behind + other + behind, list(range(shift, shift + half))))

    def test_a_wrong_grain_and_one_check(self):
        self.assert_refused([1, 3], [], 1)
        self.assert_refused([0, 1], [], 1)
        self.assert_refused([5] * 62, [], 1)


class TestHandedAndTold(MendingTest):
    CASES = (([1, 6, 8], [], 2), ([1, 6, 9], [], 2), ([1, 6, 9], [2], 2), ([9, 6, 9], [0, 2], 2))

    def test_what_is_handed_in_stays(self):
        for grains, missing, count in self.CASES + (([1, 6, 8, 9], [1], 2), ([9, 6, 9, 1], [0, 1, 2], 2)):
            row, places = list(grains), list(missing)
            try:
                mended_row(row, places, count)
            except NoMend:
                pass
            self.assertEqual((row, places), (list(grains), list(missing)))

    def test_what_is_told_is_new(self):
        for grains, missing, count in self.CASES:
            row, places = list(grains), list(missing)
            told = mended_row(row, places, count)
            for first, second in itertools.combinations((row, places, told[0], told[1]), 2):
                self.assertIsNot(first, second)
            told[0].append(7)
            told[1].append(8)
            self.assertEqual((row, places), (list(grains), list(missing)))
            self.assertEqual(mended_row(row, places, count), (told[0][:-1], told[1][:-1]))

    def test_the_told_kinds(self):
        for grains, missing, count in self.CASES:
            told = mended_row(list(grains), list(missing), count)
            self.assertIs(type(told), tuple)
            self.assertEqual([type(part) for part in told], [list, list])
            self.assertEqual({type(number) for part in told for number in part}, {int})


if __name__ == "__main__":
    unittest.main()
