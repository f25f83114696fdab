import copy
import unittest

from plain import (BIG, EMPTY, deeds_of, kid_counts, leaf_table, pages_of, picker, plain_faults, plain_levels,
                   plain_packed, run_walk, unsound)
from sidelink.looks import faults, is_sound, levels, table_of, untold
from sidelink.orders import judged
from sidelink.packs import packed
from sidelink.shelves import Shelf
from sidelink.walks import Walk
from sidelink.weavers import Weaver


def table_with(count):
    return [(key * 3 - 50, key * key) for key in range(count)]


class ByHand(unittest.TestCase):
    def check(self, table, room, pages):
        ahead = copy.deepcopy(table)
        shelf = packed(table, room)
        self.assertIsInstance(shelf, Shelf)
        self.assertEqual((shelf.room(), shelf.pages(), shelf.root()), (room, len(pages), len(pages) - 1))
        self.assertEqual(pages_of(shelf), pages)
        self.assertEqual(table, ahead)

    def test_no_pair(self):
        for room in range(2, 9):
            self.check([], room, [EMPTY])

    def test_one_pair(self):
        for room in range(2, 9):
            self.check([(7, -7)], room, [(0, (7,), (-7,), None, None)])
            self.check([(0, 0)], room, [(0, (0,), (0,), None, None)])

    def test_just_a_leaf_and_one_more(self):
        self.check([(1, 10), (2, 20)], 2, [(0, (1, 2), (10, 20), None, None)])
        self.check([(1, 10), (2, 20), (3, 30)], 2,
                   [(0, (1, 2), (10, 20), 3, 1), (0, (3,), (30,), None, None), (1, (3,), (0, 1), None, None)])
        for room in range(2, 9):
            table = table_with(room + 1)
            keys = tuple(key for key, worth in table)
            worths = tuple(worth for key, worth in table)
            self.check(table[:room - 1], room, [(0, keys[:room - 1], worths[:room - 1], None, None)])
            self.check(table[:room], room, [(0, keys[:room], worths[:room], None, None)])
            self.check(table, room, [(0, keys[:room], worths[:room], keys[room], 1),
                                     (0, keys[room:], worths[room:], None, None), (1, keys[room:], (0, 1), None, None)])

    def test_just_a_fork(self):
        table = [(key, -key) for key in range(1, 7)]
        leaves = [(0, (1, 2), (-1, -2), 3, 1), (0, (3, 4), (-3, -4), 5, 2)]
        self.check(table, 2, leaves + [(0, (5, 6), (-5, -6), None, None), (1, (3, 5), (0, 1, 2), None, None)])
        self.check(table[:5], 2, leaves + [(0, (5,), (-5,), None, None), (1, (3, 5), (0, 1, 2), None, None)])

    def test_the_last_fork_takes_a_kid(self):
        table = [(key, -key) for key in range(1, 8)]
        leaves = [(0, (1, 2), (-1, -2), 3, 1), (0, (3, 4), (-3, -4), 5, 2), (0, (5, 6), (-5, -6), 7, 3),
                  (0, (7,), (-7,), None, None)]
        forks = [(1, (3,), (0, 1), 5, 5), (1, (7,), (2, 3), None, None), (2, (5,), (4, 5), None, None)]
        self.check(table, 2, leaves + forks)
        # Two kids over are a fork of their own, and nothing is taken.
        table += [(8, -8), (9, -9)]
        leaves = leaves[:3] + [(0, (7, 8), (-7, -8), 9, 4), (0, (9,), (-9,), None, None)]
        forks = [(1, (3, 5), (0, 1, 2), 7, 6), (1, (9,), (3, 4), None, None), (2, (7,), (5, 6), None, None)]
        self.check(table, 2, leaves + forks)

    def test_a_fork_of_forks(self):
        # Room 3: leaves of 3 pairs, forks of 4 kids; 49 pairs are 17 leaves, 4 forks and one that takes a kid.
        table = [(key * 10, key) for key in range(49)]
        leaves = []
        for number in range(17):
            keys = tuple(range(number * 30, min(number * 30 + 30, 490), 10))
            last = number == 16
            leaves.append((0, keys, tuple(key // 10 for key in keys), None if last else number * 30 + 30,
                           None if last else number + 1))
        forks = [(1, (30, 60, 90), (0, 1, 2, 3), 120, 18), (1, (150, 180, 210), (4, 5, 6, 7), 240, 19),
                 (1, (270, 300, 330), (8, 9, 10, 11), 360, 20), (1, (390, 420), (12, 13, 14), 450, 21),
                 (1, (480,), (15, 16), None, None)]
        tops = [(2, (120, 240), (17, 18, 19), 360, 23), (2, (450,), (20, 21), None, None)]
        self.check(table, 3, leaves + forks + tops + [(3, (360,), (22, 23), None, None)])
        # One pair fewer: 16 leaves are just 4 forks, and these just one.
        forks = [(1, (30, 60, 90), (0, 1, 2, 3), 120, 17), (1, (150, 180, 210), (4, 5, 6, 7), 240, 18),
                 (1, (270, 300, 330), (8, 9, 10, 11), 360, 19), (1, (390, 420, 450), (12, 13, 14, 15), None, None)]
        leaves = leaves[:15] + [(0, (450, 460, 470), (45, 46, 47), None, None)]
        self.check(table[:48], 3, leaves + forks + [(2, (120, 240, 360), (16, 17, 18, 19), None, None)])

    def test_great_keys_and_worths(self):
        table = [(-BIG, BIG), (-BIG + 1, -BIG), (0, 0), (BIG - 1, BIG), (BIG, -BIG)]
        self.check(table, 2, [(0, (-BIG, -BIG + 1), (BIG, -BIG), 0, 1), (0, (0, BIG - 1), (0, BIG), BIG, 2),
                              (0, (BIG,), (-BIG,), None, None), (1, (0, BIG), (0, 1, 2), None, None)])


class EachSize(unittest.TestCase):
    def sizes(self, room):
        """All small ones, and those about a full leaf, full forks, forks of forks and so on."""
        sizes = set(range(40))
        full = room
        while full < 700:
            for times in range(1, room + 2):
                sizes |= {full * times - 1, full * times, full * times + 1}
            full *= room + 1
        return sorted(size for size in sizes if size <= 700)

    def test_all_pages(self):
        taken = 0
        for room in range(2, 9):
            for size in self.sizes(room):
                table = table_with(size)
                ahead = list(table)
                shelf = packed(table, room)
                pages = pages_of(shelf)
                with self.subTest(room=room, size=size):
                    self.assertEqual(pages, plain_packed(table, room))
                    self.assertEqual((shelf.root(), shelf.room()), (len(pages) - 1, room))
                    self.assertEqual(table, ahead)
                    taken += any(page[0] > 0 and page[3] is not None and len(page[2]) == room for page in pages)
        self.assertGreater(taken, 50)

    def test_sound_and_nothing_untold(self):
        for room in range(2, 9):
            for size in self.sizes(room):
                table = table_with(size)
                shelf = packed(table, room)
                pages = pages_of(shelf)
                self.assertIs(is_sound(shelf), True)
                self.assertEqual(untold(shelf), [])
                self.assertEqual(table_of(shelf), table)
                self.assertEqual(plain_faults(pages, shelf.root()), [])
                self.assertEqual(sum(levels(shelf)[::-1], []), list(range(len(pages))))
                self.assertEqual(kid_counts(pages), [1] * (len(pages) - 1) + [0])

    def test_no_fork_of_one_kid_and_no_page_beyond_its_room(self):
        for room in range(2, 9):
            for size in range(0, 301):
                for level, keys, parts, high, side in pages_of(packed(table_with(size), room)):
                    self.assertLessEqual(len(keys), room)
                    self.assertTrue(level == 0 or len(parts) >= 2)
                    self.assertEqual(len(parts), len(keys) + (level > 0))


class Apart(unittest.TestCase):
    def test_the_table_may_change_behind_the_call(self):
        table = table_with(20)
        shelf = packed(table, 3)
        ahead = pages_of(shelf)
        table.clear()
        self.assertEqual(pages_of(shelf), ahead)
        self.assertEqual(table_of(shelf), table_with(20))

    def test_each_shelf_is_a_new_one(self):
        table = table_with(20)
        one, other = packed(table, 3), packed(table, 3)
        self.assertIsNot(one, other)
        run_walk(Walk(one, ("put", 1000, 1)))
        self.assertEqual(table_of(other), table)
        empty = packed([], 2)
        run_walk(Walk(empty, ("put", 1, 1)))
        self.assertEqual(pages_of(packed([], 2)), [EMPTY])
        self.assertEqual(pages_of(Shelf(2)), [EMPTY])

    def test_pages_are_tuples_of_tuples(self):
        for size in (0, 1, 5, 60):
            for page in pages_of(packed(table_with(size), 2)):
                self.assertEqual([type(part) for part in page[:3]], [int, tuple, tuple])
                self.assertIs(type(page), tuple)

    def test_a_packed_shelf_counts_on(self):
        shelf = packed(table_with(9), 2)
        readings, writings = shelf.readings(), shelf.writings()
        shelf.read(0)
        shelf.lay(EMPTY)
        self.assertEqual((shelf.readings(), shelf.writings()), (readings + 1, writings + 1))


class GoingOn(unittest.TestCase):
    def test_one_walk_behind_the_other(self):
        for room in range(2, 9):
            for size in (0, 1, room, room + 1, room * (room + 1), room * (room + 1) + 1, 100):
                pick = picker(room * 1000 + size)
                plain = dict(table_with(size))
                shelf = packed(table_with(size), room)
                for deed in deeds_of(pick, 40, 200):
                    walk = Walk(shelf, deed)
                    run_walk(walk)
                    self.assertEqual(walk.answer(), self.answer_of(plain, deed))
                    self.assertEqual(table_of(shelf), sorted(plain.items()))
                    self.assertEqual((faults(shelf), untold(shelf)), ([], []))

    def answer_of(self, plain, deed):
        """The answer of a plain table, which is changed by the deed."""
        if deed[0] == "stretch":
            return [(key, plain[key]) for key in sorted(plain) if deed[1] <= key < deed[2]]
        old = plain.get(deed[1])
        if deed[0] == "put":
            plain[deed[1]] = deed[2]
        elif deed[0] == "cut":
            plain.pop(deed[1], None)
        return old

    def test_each_key_is_found(self):
        for room in (2, 5, 8):
            table = table_with(150)
            shelf = packed(table, room)
            for key, worth in table:
                for wanted in ((key, worth), (key + 1, None), (key - 1, None)):
                    walk = Walk(shelf, ("find", wanted[0]))
                    run_walk(walk)
                    self.assertEqual(walk.answer(), wanted[1])

    def test_several_hands(self):
        for seed in range(56):
            pick = picker(600 + seed)
            table = table_with(pick(60))
            shelf = packed(table, 2 + seed % 7)
            weaver = Weaver(shelf, 1 + seed // 7)
            deeds = deeds_of(pick, 30, 120)
            for deed in deeds:
                weaver.hand_in(deed)
            rows = []
            while not weaver.idle():
                rows.append(weaver.move(pick(1 + seed // 7)))
                self.assertEqual(unsound(pages_of(shelf), shelf.root()), [])
            self.assertEqual(judged(rows, deeds, table), ("fits", table_of(shelf)))
            self.assertEqual(table_of(shelf), sorted(leaf_table(pages_of(shelf)).items()))
            self.assertEqual(levels(shelf), plain_levels(pages_of(shelf), shelf.root()))
            self.assertEqual(untold(shelf), [])


if __name__ == "__main__":
    unittest.main()
