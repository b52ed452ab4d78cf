import unittest

from patchsquare.masks import turns_over

SIDE = 31

# The first rows and columns of each mask: # where it turns over.
DRAWINGS = {
    0: ["########",
        "........",
        "########",
        "........",
        "########",
        "........",
        "########"],
    1: ["#.#.#.#.",
        "#.#.#.#.",
        "#.#.#.#.",
        "#.#.#.#.",
        "#.#.#.#.",
        "#.#.#.#.",
        "#.#.#.#."],
    2: ["#.#.#.#.",
        ".#.#.#.#",
        "#.#.#.#.",
        ".#.#.#.#",
        "#.#.#.#.",
        ".#.#.#.#",
        "#.#.#.#."],
    3: ["#..#..#.",
        ".#..#..#",
        "..#..#..",
        "#..#..#.",
        ".#..#..#",
        "..#..#..",
        "#..#..#."],
    4: ["##..##..",
        "##..##..",
        "##..##..",
        "..##..##",
        "..##..##",
        "..##..##",
        "##..##.."],
    5: ["########",
        "#.#.##.#",
        "###..###",
        "#..###..",
        "##.#.##.",
        "########",
        "#.#.##.#"],
    6: ["##..##..",
        "#..##..#",
        "##..##..",
        "#..##..#",
        "##..##..",
        "#..##..#",
        "##..##.."],
    7: ["##.##.##",
        "##....##",
        "#......#",
        "..#..#..",
        "..#..#..",
        "..####..",
        ".#.##.#."],
}


def expected(mask, r, c):
    return {
        0: r in range(0, SIDE, 2),
        1: c in range(0, SIDE, 2),
        2: (r + c) in range(0, 2 * SIDE, 2),
        3: (r + 2 * c) in range(0, 3 * SIDE, 3),
        4: (r // 3 + c // 2) in range(0, 2 * SIDE, 2),
        5: (r * c) % 5 in (0, 2, 4),
        6: (r * r + c) % 4 in (0, 1),
        7: (r + c * c) % 7 in (0, 1, 2),
    }[mask]


class TestTurnsOver(unittest.TestCase):
    def test_as_drawn(self):
        for mask, drawing in DRAWINGS.items():
            told = ["".join("#" if turns_over(mask, row, column) else "." for column in range(8)) for row in range(7)]
            self.assertEqual(told, drawing, mask)

    def test_each_mask_at_every_place_of_the_greatest_square(self):
        for mask in range(8):
            for row in range(SIDE):
                for column in range(SIDE):
                    self.assertIs(turns_over(mask, row, column), expected(mask, row, column), (mask, row, column))


if __name__ == "__main__":
    unittest.main()
