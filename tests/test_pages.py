import copy
import unittest

from sidelink.pages import beyond, kid_for, with_kid, with_pair, without, worth_of

BIG = 10 ** 30

EMPTY = (0, (), (), None, None)
LEAF = (0, (10, 20, 30), (100, 0, -300), 40, 7)
LAST_LEAF = (0, (10, 20, 30), (100, 0, -300), None, None)
BARE_FORK = (1, (), (5,), None, None)
FORK = (1, (10, 20, 30), (4, 9, 2, 6), 40, 8)
HIGH_FORK = (3, (-10, 0, 10), (11, 3, 12, 0), None, None)
WIDE_LEAF = (0, (-BIG, 0, BIG - 1), (BIG, 0, -BIG), BIG, 3)
WIDE_FORK = (2, (-BIG, 0, BIG), (1, 2, 3, 4), None, None)


class PageTest(unittest.TestCase):
    def assert_page(self, told, wanted):
        self.assertEqual(told, wanted)
        self.assertIs(type(told), tuple)
        self.assertIs(type(told[1]), tuple)
        self.assertIs(type(told[2]), tuple)


class Beyond(PageTest):
    def test_without_a_high_no_key_is_beyond(self):
        for page in (EMPTY, LAST_LEAF, BARE_FORK, HIGH_FORK):
            for key in (-BIG, -1, 0, 30, 40, BIG):
                self.assertIs(beyond(page, key), False)

    def test_around_the_high(self):
        for page in (LEAF, FORK):
            self.assertIs(beyond(page, 39), False)
            self.assertIs(beyond(page, 40), True)
            self.assertIs(beyond(page, 41), True)

    def test_far_from_the_high(self):
        for page in (LEAF, FORK):
            self.assertIs(beyond(page, -BIG), False)
            self.assertIs(beyond(page, 10), False)
            self.assertIs(beyond(page, BIG), True)

    def test_a_high_of_nought_is_a_high(self):
        page = (0, (-5,), (1,), 0, 0)
        self.assertIs(beyond(page, -1), False)
        self.assertIs(beyond(page, 0), True)
        self.assertIs(beyond(page, 1), True)

    def test_a_high_below_nought(self):
        page = (1, (), (2,), -7, 1)
        self.assertIs(beyond(page, -8), False)
        self.assertIs(beyond(page, -7), True)
        self.assertIs(beyond(page, -6), True)

    def test_great_highs(self):
        self.assertIs(beyond((0, (), (), BIG, 1), BIG - 1), False)
        self.assertIs(beyond((0, (), (), BIG, 1), BIG), True)
        self.assertIs(beyond((0, (), (), -BIG + 1, 1), -BIG), False)
        self.assertIs(beyond((0, (), (), -BIG + 1, 1), -BIG + 1), True)
        self.assertIs(beyond((0, (), (), -BIG, 1), -BIG), True)


class KidFor(PageTest):
    def test_without_keys(self):
        for page in (BARE_FORK, (4, (), (5,), 60, 2)):
            for key in (-BIG, -1, 0, 1, 59):
                self.assertEqual(kid_for(page, key), 5)

    def test_level_1_around_each_key(self):
        wanted = {9: 4, 10: 9, 11: 9, 19: 9, 20: 2, 21: 2, 29: 2, 30: 6, 31: 6, 39: 6}
        for key, kid in wanted.items():
            with self.subTest(key=key):
                self.assertEqual(kid_for(FORK, key), kid)

    def test_higher_level_around_each_key(self):
        wanted = {-11: 11, -10: 3, -9: 3, -1: 3, 0: 12, 1: 12, 9: 12, 10: 0, 11: 0}
        for key, kid in wanted.items():
            with self.subTest(key=key):
                self.assertEqual(kid_for(HIGH_FORK, key), kid)

    def test_one_key(self):
        page = (2, (7,), (1, 0), None, None)
        self.assertEqual([kid_for(page, key) for key in (6, 7, 8)], [1, 0, 0])

    def test_great_keys(self):
        wanted = {-BIG - 1: 1, -BIG: 2, -BIG + 1: 2, -1: 2, 0: 3, 1: 3, BIG - 1: 3, BIG: 4, BIG + 1: 4}
        for key, kid in wanted.items():
            with self.subTest(key=key):
                self.assertEqual(kid_for(WIDE_FORK, key), kid)

    def test_a_hundred_keys(self):
        page = (1, tuple(range(0, 200, 2)), tuple(range(500, 601)), None, None)
        for place in range(100):
            self.assertEqual(kid_for(page, 2 * place - 1), 500 + place)
            self.assertEqual(kid_for(page, 2 * place), 501 + place)


class WorthOf(PageTest):
    def test_without_keys(self):
        for page in (EMPTY, (0, (), (), 5, 1)):
            for key in (-BIG, -1, 0, 1, 4):
                self.assertIsNone(worth_of(page, key))

    def test_keys_that_are_there(self):
        for page in (LEAF, LAST_LEAF):
            self.assertEqual([worth_of(page, key) for key in (10, 20, 30)], [100, 0, -300])

    def test_keys_that_are_not(self):
        for page in (LEAF, LAST_LEAF):
            for key in (-BIG, -10, 0, 9, 11, 19, 21, 29, 31, 39):
                self.assertIsNone(worth_of(page, key))

    def test_a_worth_of_nought_is_told_as_a_number(self):
        worth = worth_of((0, (0,), (0,), None, None), 0)
        self.assertEqual(worth, 0)
        self.assertIs(type(worth), int)

    def test_great_keys_and_worths(self):
        self.assertEqual([worth_of(WIDE_LEAF, key) for key in WIDE_LEAF[1]], [BIG, 0, -BIG])
        for key in (-BIG - 1, -BIG + 1, BIG - 2):
            self.assertIsNone(worth_of(WIDE_LEAF, key))
        self.assertEqual(worth_of((0, (BIG,), (-BIG,), None, None), BIG), -BIG)
        self.assertIsNone(worth_of((0, (BIG,), (-BIG,), None, None), BIG - 1))

    def test_a_hundred_keys(self):
        page = (0, tuple(range(0, 200, 2)), tuple(range(0, -100, -1)), None, None)
        for place in range(100):
            self.assertEqual(worth_of(page, 2 * place), -place)
            self.assertIsNone(worth_of(page, 2 * place + 1))


class WithPair(PageTest):
    def test_in_an_empty_leaf(self):
        self.assert_page(with_pair(EMPTY, 3, -4), (0, (3,), (-4,), None, None))
        self.assert_page(with_pair((0, (), (), 9, 0), 8, 0), (0, (8,), (0,), 9, 0))

    def test_ahead_between_and_behind(self):
        wanted = {
            5: (0, (5, 10, 20, 30), (1, 100, 0, -300), 40, 7),
            15: (0, (10, 15, 20, 30), (100, 1, 0, -300), 40, 7),
            25: (0, (10, 20, 25, 30), (100, 0, 1, -300), 40, 7),
            39: (0, (10, 20, 30, 39), (100, 0, -300, 1), 40, 7),
        }
        for key, page in wanted.items():
            with self.subTest(key=key):
                self.assert_page(with_pair(LEAF, key, 1), page)

    def test_behind_the_last_without_a_high(self):
        wanted = (0, (10, 20, 30, 31), (100, 0, -300, 0), None, None)
        self.assert_page(with_pair(LAST_LEAF, 31, 0), wanted)

    def test_in_the_place_of_the_old_worth(self):
        self.assert_page(with_pair(LEAF, 10, 5), (0, (10, 20, 30), (5, 0, -300), 40, 7))
        self.assert_page(with_pair(LEAF, 20, 5), (0, (10, 20, 30), (100, 5, -300), 40, 7))
        self.assert_page(with_pair(LEAF, 30, 5), (0, (10, 20, 30), (100, 0, 5), 40, 7))
        self.assert_page(with_pair(LEAF, 10, 0), (0, (10, 20, 30), (0, 0, -300), 40, 7))

    def test_the_same_worth_again(self):
        self.assert_page(with_pair(LEAF, 30, -300), LEAF)

    def test_great_keys_and_worths(self):
        self.assert_page(with_pair(EMPTY, BIG, -BIG), (0, (BIG,), (-BIG,), None, None))
        self.assert_page(with_pair(LEAF, -BIG, BIG), (0, (-BIG, 10, 20, 30), (BIG, 100, 0, -300), 40, 7))
        self.assert_page(with_pair(LAST_LEAF, BIG, BIG), (0, (10, 20, 30, BIG), (100, 0, -300, BIG), None, None))
        wanted = (0, (-BIG, 0, BIG - 2, BIG - 1), (BIG, 0, 1, -BIG), BIG, 3)
        self.assert_page(with_pair(WIDE_LEAF, BIG - 2, 1), wanted)
        self.assert_page(with_pair(WIDE_LEAF, -BIG, -BIG), (0, (-BIG, 0, BIG - 1), (-BIG, 0, -BIG), BIG, 3))


class Without(PageTest):
    def test_of_each_key(self):
        self.assert_page(without(LEAF, 10), (0, (20, 30), (0, -300), 40, 7))
        self.assert_page(without(LEAF, 20), (0, (10, 30), (100, -300), 40, 7))
        self.assert_page(without(LEAF, 30), (0, (10, 20), (100, 0), 40, 7))
        self.assert_page(without(LAST_LEAF, 30), (0, (10, 20), (100, 0), None, None))

    def test_of_a_key_that_is_not_there(self):
        for key in (-BIG, 0, 9, 11, 21, 29, 31, 39):
            self.assert_page(without(LEAF, key), LEAF)
        self.assert_page(without(EMPTY, 0), EMPTY)

    def test_of_the_last_one_left(self):
        self.assert_page(without((0, (4,), (0,), None, None), 4), EMPTY)
        self.assert_page(without((0, (4,), (2,), 5, 0), 4), (0, (), (), 5, 0))

    def test_of_great_keys(self):
        self.assert_page(without(WIDE_LEAF, -BIG), (0, (0, BIG - 1), (0, -BIG), BIG, 3))
        self.assert_page(without(WIDE_LEAF, BIG - 1), (0, (-BIG, 0), (BIG, 0), BIG, 3))
        self.assert_page(without(WIDE_LEAF, BIG - 2), WIDE_LEAF)
        self.assert_page(without((0, (BIG,), (BIG,), None, None), BIG), EMPTY)


class WithKid(PageTest):
    def test_without_keys(self):
        self.assert_page(with_kid(BARE_FORK, 3, 0), (1, (3,), (5, 0), None, None))
        self.assert_page(with_kid((4, (), (5,), 60, 2), -3, 9), (4, (-3,), (5, 9), 60, 2))

    def test_ahead_between_and_behind(self):
        wanted = {
            5: (1, (5, 10, 20, 30), (4, 1, 9, 2, 6), 40, 8),
            15: (1, (10, 15, 20, 30), (4, 9, 1, 2, 6), 40, 8),
            25: (1, (10, 20, 25, 30), (4, 9, 2, 1, 6), 40, 8),
            39: (1, (10, 20, 30, 39), (4, 9, 2, 6, 1), 40, 8),
        }
        for key, page in wanted.items():
            with self.subTest(key=key):
                self.assert_page(with_kid(FORK, key, 1), page)

    def test_in_a_higher_fork(self):
        self.assert_page(with_kid(HIGH_FORK, 1, 77), (3, (-10, 0, 1, 10), (11, 3, 12, 77, 0), None, None))

    def test_the_key_leads_to_the_kid(self):
        for key in (5, 15, 25, 35):
            fork = with_kid(FORK, key, 1)
            self.assertEqual(kid_for(fork, key), 1)
            self.assertEqual(kid_for(fork, key - 1), kid_for(FORK, key - 1))

    def test_great_keys(self):
        self.assert_page(with_kid(BARE_FORK, BIG, 6), (1, (BIG,), (5, 6), None, None))
        self.assert_page(with_kid(BARE_FORK, -BIG, 6), (1, (-BIG,), (5, 6), None, None))
        self.assert_page(with_kid(FORK, -BIG, 1), (1, (-BIG, 10, 20, 30), (4, 1, 9, 2, 6), 40, 8))
        wanted = (2, (-BIG, 0, BIG - 1, BIG), (1, 2, 3, 9, 4), None, None)
        self.assert_page(with_kid(WIDE_FORK, BIG - 1, 9), wanted)


class HandedIn(PageTest):
    def test_pages_stay_as_they_were(self):
        leaves = (EMPTY, LEAF, LAST_LEAF, WIDE_LEAF)
        forks = (BARE_FORK, FORK, HIGH_FORK, WIDE_FORK)
        ahead = copy.deepcopy((leaves, forks))
        for leaf in leaves:
            for key in (-BIG, 5, 10, 20):
                beyond(leaf, key)
                worth_of(leaf, key)
                with_pair(leaf, key, 3)
                without(leaf, key)
        for fork in forks:
            for key in (-BIG + 1, 5, 15):
                beyond(fork, key)
                kid_for(fork, key)
                with_kid(fork, key, 3)
        self.assertEqual((leaves, forks), ahead)

    def test_later_changes_dont_touch_a_told_page(self):
        first = with_pair(EMPTY, 1, 2)
        second = with_pair(first, 1, 3)
        third = without(second, 1)
        self.assertEqual(first, (0, (1,), (2,), None, None))
        self.assertEqual(second, (0, (1,), (3,), None, None))
        self.assertEqual(third, EMPTY)


class AgainstAPlainDict(PageTest):
    def test_many_puts_and_cuts(self):
        page = (0, (), (), 101, 4)
        plain = {}
        key = 1
        for turn in range(600):
            key = key * 5 % 101
            spot = key * (turn + 3) % 101
            if turn % 3 == 2:
                page = without(page, spot)
                plain.pop(spot, None)
            else:
                page = with_pair(page, spot, turn - 300)
                plain[spot] = turn - 300
            keys = tuple(sorted(plain))
            self.assert_page(page, (0, keys, tuple(plain[k] for k in keys), 101, 4))
            self.assertEqual(worth_of(page, spot), plain.get(spot))


if __name__ == "__main__":
    unittest.main()
