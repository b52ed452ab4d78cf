import unittest
from random import Random

from patchsquare.blocks import block_shapes
from patchsquare.checks import checks_for, is_code
from patchsquare.errors import NoMend
from patchsquare.wrapping import unwrapped_grains, wrapped_grains

# By size and level: (data, checks) of each block.
SHAPES = {(size, level): block_shapes(size, level) for size in (15, 19, 23, 27, 31) for level in range(4)}


# Where the grains of each block stand among all grains: block by turns, and the odd one at the end is the last's.
def places_of_blocks(size, level):
    shapes = SHAPES[(size, level)]
    blocks = len(shapes)
    places = [list(range(block, blocks * (sum(shapes[0])), blocks)) for block in range(blocks)]
    if shapes[-1] != shapes[0]:
        places[-1].append(blocks * sum(shapes[0]))
    return places


def data_by_chance(chance, size, level):
    return [chance.randrange(64) for _ in range(sum(data for data, checks in SHAPES[(size, level)]))]


class WrappingTest(unittest.TestCase):
    # Spoils in each block as many grains as are asked, given as a list of pairs (wrong, missing).
    def spoil(self, chance, grains, size, level, spoilings):
        spoilt = list(grains)
        missing = []
        for places, (wrong_count, missing_count) in zip(places_of_blocks(size, level), spoilings):
            chosen = chance.sample(places, wrong_count + missing_count)
            for place in chosen[:wrong_count]:
                spoilt[place] ^= chance.randrange(1, 64)
            for place in chosen[wrong_count:]:
                spoilt[place] = chance.randrange(64)
                missing.append(place)
        return spoilt, sorted(missing)


class TestWrappedGrains(WrappingTest):
    def test_blocks_are_code_rows_that_begin_with_the_data(self):
        chance = Random(1)
        for (size, level), shapes in SHAPES.items():
            with self.subTest(size=size, level=level):
                data = data_by_chance(chance, size, level)
                grains = wrapped_grains(data, size, level)
                self.assertEqual(len(grains), sum(count + checks for count, checks in shapes))
                begun = []
                for places, (count, checks) in zip(places_of_blocks(size, level), shapes):
                    row = [grains[place] for place in places]
                    self.assertEqual(len(row), count + checks)
                    self.assertTrue(is_code(row, checks))
                    begun += row[:count]
                self.assertEqual(begun, data)

    def test_one_block_is_the_data_and_their_checks(self):
        data = list(range(12))
        self.assertEqual(wrapped_grains(data, 15, 0), data + checks_for(data, 4))
        data = list(range(17))
        self.assertEqual(wrapped_grains(data, 19, 3), data + checks_for(data, 20))

    def test_three_blocks_by_turns(self):
        data = [1] * 20 + [2] * 20 + [3] * 21
        grains = wrapped_grains(data, 31, 3)
        self.assertEqual(grains[:60], [1, 2, 3] * 20)
        first, last = checks_for([1] * 20, 24), checks_for([3] * 21, 24)
        # The last block's last datum stands beside the other blocks' first checks.
        self.assertEqual(grains[60:63], [first[0], checks_for([2] * 20, 24)[0], 3])
        self.assertEqual(grains[63], first[1])
        self.assertEqual(grains[65], last[0])
        self.assertEqual(grains[-1], last[-1])

    def test_what_is_handed_in_stays_and_what_is_told_is_new(self):
        chance = Random(2)
        for size, level in SHAPES:
            data = data_by_chance(chance, size, level)
            before = list(data)
            told = wrapped_grains(data, size, level)
            self.assertIs(type(told), list)
            self.assertEqual({type(grain) for grain in told}, {int})
            self.assertEqual(data, before)
            again = list(told)
            told.clear()
            self.assertEqual(data, before)
            self.assertEqual(wrapped_grains(data, size, level), again)


class TestUnwrappedGrains(WrappingTest):
    def assert_unwrapped(self, chance, size, level, spoilings):
        data = data_by_chance(chance, size, level)
        grains, missing = self.spoil(chance, wrapped_grains(data, size, level), size, level, spoilings)
        self.assertEqual(unwrapped_grains(grains, missing, size, level), (data, spoilings))

    def assert_refused(self, chance, size, level, spoilings, block):
        data = data_by_chance(chance, size, level)
        grains, missing = self.spoil(chance, wrapped_grains(data, size, level), size, level, spoilings)
        with self.assertRaises(NoMend) as taken:
            unwrapped_grains(grains, missing, size, level)
        self.assertEqual(taken.exception.block, block)
        self.assertIs(type(taken.exception.block), int)

    def test_nothing_spoilt(self):
        chance = Random(3)
        for (size, level), shapes in SHAPES.items():
            self.assert_unwrapped(chance, size, level, [(0, 0)] * len(shapes))

    def test_spoilt_up_to_the_bound_in_each_block(self):
        chance = Random(4)
        for (size, level), shapes in SHAPES.items():
            checks = shapes[0][1]
            for wrong_count in sorted({0, 1, checks // 4, checks // 2}):
                with self.subTest(size=size, level=level, wrong=wrong_count):
                    spoiling = (wrong_count, checks - 2 * wrong_count)
                    self.assert_unwrapped(chance, size, level, [spoiling] * len(shapes))

    def test_spoilt_otherwise_in_each_block(self):
        chance = Random(5)
        for (size, level), shapes in SHAPES.items():
            for _ in range(4):
                spoilings = []
                for data, checks in shapes:
                    wrong_count = chance.randrange(checks // 2 + 1)
                    spoilings.append((wrong_count, chance.randrange(checks - 2 * wrong_count + 1)))
                with self.subTest(size=size, level=level, spoilings=spoilings):
                    self.assert_unwrapped(chance, size, level, spoilings)

    def test_each_block_has_its_own_pair(self):
        chance = Random(6)
        self.assert_unwrapped(chance, 31, 3, [(0, 0), (5, 1), (2, 20)])
        self.assert_unwrapped(chance, 31, 0, [(3, 0), (0, 6), (1, 4)])
        self.assert_unwrapped(chance, 23, 1, [(0, 10), (5, 0)])

    def test_missing_places_whose_grains_are_right(self):
        chance = Random(7)
        for (size, level), shapes in SHAPES.items():
            data = data_by_chance(chance, size, level)
            grains = wrapped_grains(data, size, level)
            blocks = places_of_blocks(size, level)
            missing = sorted(place for places in blocks for place in places[:3])
            told = unwrapped_grains(grains, missing, size, level)
            self.assertEqual(told, (data, [(0, 3)] * len(shapes)))
            missing = sorted(places[-1] for places in blocks)
            self.assertEqual(unwrapped_grains(grains, missing, size, level), (data, [(0, 1)] * len(shapes)))

    def test_wrong_checks_count_too(self):
        data = list(range(52))
        grains = wrapped_grains(data, 23, 0)
        grains[-1] ^= 1
        grains[-3] ^= 5
        grains[-4] ^= 9
        self.assertEqual(unwrapped_grains(grains, [], 23, 0), (data, [(1, 0), (2, 0)]))

    def test_one_step_beyond_in_one_block(self):
        chance = Random(8)
        for (size, level), shapes in SHAPES.items():
            checks = shapes[0][1]
            # Just one above the count: no code row is near enough.
            for beyond in ((checks // 2, 1), (0, checks + 1), (1, checks - 1)):
                for block in range(len(shapes)):
                    spoilings = [(1, 1)] * len(shapes)
                    spoilings[block] = beyond
                    with self.subTest(size=size, level=level, spoilings=spoilings):
                        self.assert_refused(chance, size, level, spoilings, block)

    def test_the_first_block_that_cannot_be_mended_is_told(self):
        chance = Random(9)
        for level in range(4):
            checks = SHAPES[(31, level)][0][1]
            beyond, fair = (checks // 2, 1), (checks // 2, 0)
            self.assert_refused(chance, 31, level, [beyond, beyond, beyond], 0)
            self.assert_refused(chance, 31, level, [fair, beyond, beyond], 1)
            self.assert_refused(chance, 31, level, [beyond, fair, beyond], 0)
            self.assert_refused(chance, 31, level, [fair, fair, beyond], 2)
            self.assert_refused(chance, 31, level, [fair, (0, checks + 1), beyond], 1)
            self.assert_refused(chance, 31, level, [beyond, (0, checks + 1), fair], 0)

    def test_all_grains_missing(self):
        for (size, level), shapes in SHAPES.items():
            count = sum(data + checks for data, checks in shapes)
            with self.assertRaises(NoMend) as taken:
                unwrapped_grains([0] * count, list(range(count)), size, level)
            self.assertEqual(taken.exception.block, 0)

    def test_what_is_handed_in_stays_and_what_is_told_is_new(self):
        chance = Random(10)
        for (size, level), shapes in SHAPES.items():
            for spoiling in ((0, 0), (1, 2), (0, shapes[0][1] + 1)):
                grains, missing = self.spoil(chance, wrapped_grains(data_by_chance(chance, size, level), size, level),
                                             size, level, [spoiling] * len(shapes))
                before = (list(grains), list(missing))
                try:
                    told = unwrapped_grains(grains, missing, size, level)
                except NoMend:
                    self.assertEqual((grains, missing), before)
                    continue
                self.assertEqual((grains, missing), before)
                self.assertIs(type(told), tuple)
                self.assertEqual([type(part) for part in told], [list, list])
                self.assertEqual({type(pair) for pair in told[1]}, {tuple})
                self.assertEqual({type(number) for pair in told[1] for number in pair}, {int})
                self.assertEqual({type(grain) for grain in told[0]}, {int})
                again = (list(told[0]), list(told[1]))
                told[0].append(1)
                told[1].append((2, 2))
                self.assertEqual((grains, missing), before)
                self.assertEqual(unwrapped_grains(grains, missing, size, level), again)


if __name__ == "__main__":
    unittest.main()
