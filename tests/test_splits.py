import copy
import unittest

from sidelink.pages import kid_for, worth_of
from sidelink.splits import is_full, parted

BIG = 10 ** 30


def leaf_of(count, high=None, side=None):
    keys = tuple(range(10, 10 * count + 1, 10))
    return (0, keys, tuple(key * -7 for key in keys), high, side)


def fork_of(count, level=1, high=None, side=None):
    keys = tuple(range(10, 10 * count + 1, 10))
    return (level, keys, tuple(range(50, 50 + count + 1)), high, side)


class IsFull(unittest.TestCase):
    def test_around_the_room(self):
        for room in range(2, 9):
            for page_of in (leaf_of, fork_of):
                with self.subTest(room=room, page_of=page_of):
                    self.assertIs(is_full(page_of(room - 1), room), False)
                    self.assertIs(is_full(page_of(room), room), False)
                    self.assertIs(is_full(page_of(room + 1), room), True)

    def test_far_from_the_room(self):
        self.assertIs(is_full((0, (), (), None, None), 2), False)
        self.assertIs(is_full((1, (), (3,), None, None), 2), False)
        self.assertIs(is_full(leaf_of(100), 8), True)
        self.assertIs(is_full(fork_of(100), 8), True)

    def test_high_side_and_greatness_dont_matter(self):
        for high, side in ((None, None), (BIG, 1)):
            self.assertIs(is_full((0, (-BIG, BIG - 1), (BIG, -BIG), high, side), 2), False)
            self.assertIs(is_full((0, (-BIG, 0, BIG - 1), (BIG, 0, -BIG), high, side), 2), True)


class Parted(unittest.TestCase):
    def assert_parted(self, told, wanted):
        self.assertEqual(told, wanted)
        self.assertIs(type(told), tuple)
        for page in told[:2]:
            self.assertIs(type(page), tuple)
            self.assertIs(type(page[1]), tuple)
            self.assertIs(type(page[2]), tuple)

    def test_leaf_of_three(self):
        old = (0, (1,), (-1,), 2, 9)
        new = (0, (2, 3), (0, 5), None, None)
        self.assert_parted(parted((0, (1, 2, 3), (-1, 0, 5), None, None), 9), (old, new, 2))

    def test_leaf_of_four_with_a_high(self):
        old = (0, (1, 2), (-1, 0), 3, 9)
        new = (0, (3, 4), (5, 6), 8, 2)
        self.assert_parted(parted((0, (1, 2, 3, 4), (-1, 0, 5, 6), 8, 2), 9), (old, new, 3))

    def test_leaf_of_five_with_a_high_of_nought(self):
        page = (0, (-5, -4, -3, -2, -1), (1, 2, 3, 4, 5), 0, 0)
        old = (0, (-5, -4), (1, 2), -3, 1)
        new = (0, (-3, -2, -1), (3, 4, 5), 0, 0)
        self.assert_parted(parted(page, 1), (old, new, -3))

    def test_fork_of_three(self):
        old = (1, (1,), (4, 6), 2, 9)
        new = (1, (3,), (7, 5), None, None)
        self.assert_parted(parted((1, (1, 2, 3), (4, 6, 7, 5), None, None), 9), (old, new, 2))

    def test_fork_of_four_with_a_high(self):
        old = (2, (1, 2), (4, 6, 7), 3, 9)
        new = (2, (4,), (5, 0), 8, 2)
        self.assert_parted(parted((2, (1, 2, 3, 4), (4, 6, 7, 5, 0), 8, 2), 9), (old, new, 3))

    def test_fork_of_five_of_a_high_level(self):
        page = (7, (1, 2, 3, 4, 5), (10, 11, 12, 13, 14, 15), 6, 0)
        old = (7, (1, 2), (10, 11, 12), 3, 30)
        new = (7, (4, 5), (13, 14, 15), 6, 0)
        self.assert_parted(parted(page, 30), (old, new, 3))

    def test_every_count_of_leaves(self):
        for count in list(range(3, 12)) + [99, 100, 101]:
            for high, side in ((None, None), (10 * count + 1, 3)):
                with self.subTest(count=count, high=high):
                    page = leaf_of(count, high, side)
                    half = count // 2
                    key = 10 * (half + 1)
                    old = (0, page[1][:half], page[2][:half], key, 77)
                    new = (0, page[1][half:], page[2][half:], high, side)
                    self.assert_parted(parted(page, 77), (old, new, key))

    def test_every_count_of_forks(self):
        for count in list(range(3, 12)) + [99, 100, 101]:
            for level, high, side in ((1, None, None), (1, 10 * count + 1, 0), (4, 10 * count + 9, 3)):
                with self.subTest(count=count, level=level, high=high):
                    page = fork_of(count, level, high, side)
                    half = count // 2
                    key = 10 * (half + 1)
                    old = (level, page[1][:half], page[2][:half + 1], key, 77)
                    new = (level, page[1][half + 1:], page[2][half + 1:], high, side)
                    self.assert_parted(parted(page, 77), (old, new, key))

    def test_great_keys_and_worths(self):
        old = (0, (-BIG,), (BIG,), 0, 1)
        new = (0, (0, BIG), (0, -BIG), None, None)
        self.assert_parted(parted((0, (-BIG, 0, BIG), (BIG, 0, -BIG), None, None), 1), (old, new, 0))
        old = (0, (-BIG,), (BIG,), BIG - 2, 1)
        new = (0, (BIG - 2, BIG - 1), (BIG, -BIG), BIG, 5)
        self.assert_parted(parted((0, (-BIG, BIG - 2, BIG - 1), (BIG, BIG, -BIG), BIG, 5), 1), (old, new, BIG - 2))
        old = (3, (-BIG,), (1, 2), -BIG + 1, 8)
        new = (3, (BIG,), (3, 4), None, None)
        self.assert_parted(parted((3, (-BIG, -BIG + 1, BIG), (1, 2, 3, 4), None, None), 8), (old, new, -BIG + 1))

    def test_every_key_leads_as_ahead(self):
        for count in range(3, 10):
            leaf = leaf_of(count)
            fork = fork_of(count)
            for key in range(5, 10 * count + 8):
                old, new, parting = parted(leaf, 77)
                self.assertEqual(worth_of(old if key < parting else new, key), worth_of(leaf, key))
                old, new, parting = parted(fork, 77)
                self.assertEqual(kid_for(old if key < parting else new, key), kid_for(fork, key))

    def test_the_page_handed_in_stays(self):
        for page in (leaf_of(5, 51, 2), fork_of(6, 2, 61, 3)):
            ahead = copy.deepcopy(page)
            is_full(page, 4)
            parted(page, 9)
            self.assertEqual(page, ahead)


if __name__ == "__main__":
    unittest.main()
