import copy
import unittest

from plain import BIG, EMPTY, counts_of, leaf_table, pages_of, run_walk, unsound
from sidelink.shelves import Shelf
from sidelink.walks import Walk


class SeenWalk(Walk):
    """A walk that tells its shelf too."""

    def __init__(self, shelf, deed):
        Walk.__init__(self, shelf, deed)
        self.seen = shelf


def shelf_with(room, pages, root):
    """A shelf of these pages, by their places."""
    shelf = Shelf(room)
    shelf.write(0, pages[0])
    for page in pages[1:]:
        shelf.lay(page)
    shelf.make_root(root)
    return shelf


def run(shelf, deed):
    return run_walk(Walk(shelf, deed))


def run_all(shelf, deeds):
    return [run(shelf, deed) for deed in deeds]


# Two levels in room 2: leaves 0, 1 and 3 under the fork 2.
TWO_LEVELS = (
    (0, (10,), (100,), 20, 1),
    (0, (20, 22), (200, 220), 30, 3),
    (1, (20, 30), (0, 1, 3), None, None),
    (0, (30, 40), (300, 400), None, None),
)
# Three levels: leaves 0 to 3, forks 4 and 5, the root 6.
THREE_LEVELS = (
    (0, (-5, 1), (50, 10), 10, 1),
    (0, (10, 12), (100, 120), 20, 2),
    (0, (), (), 30, 3),
    (0, (30, 31), (0, 310), None, None),
    (1, (10,), (0, 1), 20, 5),
    (1, (30,), (2, 3), None, None),
    (2, (20,), (4, 5), None, None),
)


class WalkTest(unittest.TestCase):
    def assert_step(self, walk, row, readings=1, writings=0):
        """The walk's step tells the row, with so many readings and writings."""
        shelf = walk.seen
        ahead = counts_of(shelf)
        told = walk.step()
        behind = counts_of(shelf)
        self.assertEqual(told, row)
        self.assertEqual((behind[0] - ahead[0], behind[1] - ahead[1]), (readings, writings))
        if row is not None:
            self.assertIs(type(told), tuple)

    def assert_over(self, walk, answer):
        ahead = counts_of(walk.seen), pages_of(walk.seen), walk.seen.root()
        self.assertIs(walk.over(), True)
        self.assertEqual(walk.answer(), answer)
        for turn in range(3):
            self.assert_step(walk, None, 0, 0)
        self.assertEqual(walk.answer(), answer)
        self.assertIs(walk.over(), True)
        self.assertEqual((pages_of(walk.seen), walk.seen.root()), ahead[1:])

    def assert_not_over(self, walk):
        self.assertIs(walk.over(), False)
        self.assertIsNone(walk.answer())


class Making(WalkTest):
    def test_nothing_is_done_ahead_of_the_first_step(self):
        for deed in (("find", 1), ("put", 1, 2), ("cut", 1), ("stretch", 1, 2)):
            shelf = Shelf(2)
            walk = SeenWalk(shelf, deed)
            self.assert_not_over(walk)
            self.assertEqual(counts_of(shelf), (0, 0))
            self.assertEqual(pages_of(shelf), [EMPTY])

    def test_asking_reads_nothing(self):
        shelf = shelf_with(2, TWO_LEVELS, 2)
        walk = SeenWalk(shelf, ("stretch", 0, 100))
        counts = counts_of(shelf)
        walk.over()
        walk.answer()
        self.assertEqual(counts_of(shelf), counts)

    def test_it_begins_at_the_root_of_the_first_step(self):
        shelf = shelf_with(2, TWO_LEVELS, 0)
        walk = SeenWalk(shelf, ("find", 10))
        shelf.make_root(2)
        self.assert_step(walk, ("down", 2, 0))

    def test_a_walk_made_ahead_of_a_raised_root(self):
        shelf = Shelf(2)
        run_all(shelf, [("put", 1, 10), ("put", 2, 20)])
        walk = SeenWalk(shelf, ("find", 3))
        run(shelf, ("put", 3, 30))
        self.assertEqual(shelf.root(), 2)
        self.assert_step(walk, ("down", 2, 1))
        self.assert_step(walk, ("found", 1, 30))

    def test_behind_the_first_step_a_raised_root_changes_nothing(self):
        shelf = shelf_with(2, TWO_LEVELS, 2)
        walk = SeenWalk(shelf, ("find", 20))
        self.assert_step(walk, ("down", 2, 1))
        shelf.raise_root(BIG, 2)
        self.assert_step(walk, ("found", 1, 200))

    def test_the_deed_handed_in_stays(self):
        for deed in (("find", 1), ("put", 1, 2), ("cut", 1), ("stretch", 1, 2)):
            ahead = copy.deepcopy(deed)
            run(shelf_with(2, TWO_LEVELS, 2), deed)
            self.assertEqual(deed, ahead)


class Way(WalkTest):
    def test_down_around_each_key(self):
        wanted = {-BIG: 0, 19: 0, 20: 1, 21: 1, 29: 1, 30: 3, BIG: 3}
        for key, kid in wanted.items():
            walk = SeenWalk(shelf_with(2, TWO_LEVELS, 2), ("find", key))
            self.assert_step(walk, ("down", 2, kid))
            self.assert_not_over(walk)

    def test_down_through_several_levels(self):
        walk = SeenWalk(shelf_with(2, THREE_LEVELS, 6), ("find", 12))
        self.assert_step(walk, ("down", 6, 4))
        self.assert_step(walk, ("down", 4, 1))
        self.assert_step(walk, ("found", 1, 120))
        self.assert_over(walk, 120)

    def test_to_the_side_among_leaves(self):
        walk = SeenWalk(shelf_with(2, TWO_LEVELS, 0), ("find", 30))
        self.assert_step(walk, ("side", 0, 1))
        self.assert_not_over(walk)
        self.assert_step(walk, ("side", 1, 3))
        self.assert_step(walk, ("found", 3, 300))
        self.assert_over(walk, 300)

    def test_to_the_side_just_from_high_on(self):
        self.assertEqual(run(shelf_with(2, TWO_LEVELS, 0), ("find", 19)), [("found", 0, None)])
        self.assertEqual(run(shelf_with(2, TWO_LEVELS, 0), ("find", 20)), [("side", 0, 1), ("found", 1, 200)])

    def test_to_the_side_at_a_fork(self):
        walk = SeenWalk(shelf_with(2, THREE_LEVELS, 4), ("find", 31))
        self.assert_step(walk, ("side", 4, 5))
        self.assert_step(walk, ("down", 5, 3))
        self.assert_step(walk, ("found", 3, 310))

    def test_every_deed_goes_the_same_way(self):
        for deed in (("find", 31), ("put", 31, 7), ("cut", 31), ("stretch", 31, 99)):
            rows = run(shelf_with(2, THREE_LEVELS, 4), deed)
            self.assertEqual(rows[:2], [("side", 4, 5), ("down", 5, 3)])
            self.assertEqual(rows[2][1], 3)
            self.assertEqual(len(rows), 3)

    def test_a_side_of_page_0(self):
        pages = ((0, (5,), (50,), None, None), (0, (1,), (10,), 5, 0))
        self.assertEqual(run(shelf_with(2, pages, 1), ("find", 5)), [("side", 1, 0), ("found", 0, 50)])


class Find(WalkTest):
    def test_there_and_not_there(self):
        shelf = shelf_with(2, TWO_LEVELS, 2)
        ahead = pages_of(shelf)
        for key, worth in ((10, 100), (11, None), (22, 220), (21, None), (40, 400), (BIG, None), (-BIG, None)):
            walk = SeenWalk(shelf, ("find", key))
            leaf = walk.step()[2]
            self.assert_step(walk, ("found", leaf, worth))
            self.assert_over(walk, worth)
        self.assertEqual(pages_of(shelf), ahead)

    def test_on_an_empty_shelf(self):
        walk = SeenWalk(Shelf(2), ("find", 0))
        self.assert_step(walk, ("found", 0, None))
        self.assert_over(walk, None)

    def test_a_worth_of_nought(self):
        walk = SeenWalk(shelf_with(2, THREE_LEVELS, 3), ("find", 30))
        self.assert_step(walk, ("found", 3, 0))
        self.assert_over(walk, 0)

    def test_great_keys_and_worths(self):
        shelf = shelf_with(2, ((0, (-BIG, BIG), (BIG, -BIG), None, None),), 0)
        self.assertEqual(run(shelf, ("find", -BIG)), [("found", 0, BIG)])
        self.assertEqual(run(shelf, ("find", BIG)), [("found", 0, -BIG)])
        self.assertEqual(run(shelf, ("find", BIG - 1)), [("found", 0, None)])


class Put(WalkTest):
    def test_with_room_left(self):
        for room in range(2, 9):
            shelf = Shelf(room)
            for count in range(1, room + 1):
                walk = SeenWalk(shelf, ("put", -count, count))
                self.assert_step(walk, ("put", 0, None, None), 1, 1)
                self.assert_over(walk, None)
            keys = tuple(range(-room, 0))
            self.assertEqual(pages_of(shelf), [(0, keys, tuple(-key for key in keys), None, None)])

    def test_of_a_key_that_is_there(self):
        shelf = shelf_with(2, TWO_LEVELS, 2)
        walk = SeenWalk(shelf, ("put", 22, -1))
        self.assert_step(walk, ("down", 2, 1))
        self.assert_not_over(walk)
        self.assert_step(walk, ("put", 1, 220, None), 1, 1)
        self.assert_over(walk, 220)
        self.assertEqual(shelf.read(1), (0, (20, 22), (200, -1), 30, 3))

    def test_of_the_same_worth_is_written(self):
        shelf = shelf_with(2, TWO_LEVELS, 1)
        walk = SeenWalk(shelf, ("put", 22, 220))
        self.assert_step(walk, ("put", 1, 220, None), 1, 1)
        self.assert_over(walk, 220)
        self.assertEqual(pages_of(shelf), list(TWO_LEVELS))

    def test_over_a_worth_of_nought(self):
        walk = SeenWalk(shelf_with(2, THREE_LEVELS, 3), ("put", 30, 0))
        self.assert_step(walk, ("put", 3, 0, None), 1, 1)
        self.assert_over(walk, 0)

    def test_that_parts_the_root_leaf_in_each_room(self):
        for room in range(2, 9):
            with self.subTest(room=room):
                shelf = Shelf(room)
                run_all(shelf, [("put", key, -key) for key in range(room)])
                walk = SeenWalk(shelf, ("put", room, -room))
                self.assert_step(walk, ("put", 0, None, 1), 1, 2)
                self.assert_not_over(walk)
                half = (room + 1) // 2
                low, high = tuple(range(half)), tuple(range(half, room + 1))
                old = (0, low, tuple(-key for key in low), half, 1)
                new = (0, high, tuple(-key for key in high), None, None)
                self.assertEqual(pages_of(shelf), [old, new])
                self.assertEqual(shelf.root(), 0)
                self.assert_step(walk, ("raised", 0, 2), 1, 1)
                self.assert_over(walk, None)
                self.assertEqual(pages_of(shelf), [old, new, (1, (half,), (0, 1), None, None)])
                self.assertEqual(shelf.root(), 2)

    def test_the_new_page_is_laid_ahead_of_the_leafs_writing(self):
        calls = []

        class Watched(Shelf):
            def lay(self, page):
                calls.append(("lay", page))
                return Shelf.lay(self, page)

            def write(self, number, page):
                calls.append(("write", number, page))
                Shelf.write(self, number, page)

        shelf = Watched(2)
        run_all(shelf, [("put", 1, 1), ("put", 2, 2)])
        calls.clear()
        SeenWalk(shelf, ("put", 3, 3)).step()
        new = (0, (2, 3), (2, 3), None, None)
        self.assertEqual(calls, [("lay", new), ("write", 0, (0, (1,), (1,), 2, 1))])

    def test_that_parts_a_leaf_between_others(self):
        shelf = shelf_with(2, TWO_LEVELS[:2] + ((1, (20,), (0, 1), None, None), (0, (30,), (300,), None, None)), 2)
        walk = SeenWalk(shelf, ("put", 21, 210))
        self.assert_step(walk, ("down", 2, 1))
        self.assert_step(walk, ("put", 1, None, 4), 1, 2)
        self.assert_not_over(walk)
        self.assertEqual(shelf.read(1), (0, (20,), (200,), 21, 4))
        self.assertEqual(shelf.read(4), (0, (21, 22), (210, 220), 30, 3))
        self.assert_step(walk, ("told", 2, None), 1, 1)
        self.assert_over(walk, None)
        self.assertEqual(shelf.read(2), (1, (20, 21), (0, 1, 4), None, None))
        self.assertEqual(shelf.pages(), 5)

    def test_of_a_key_that_is_there_in_a_leaf_beyond_its_room(self):
        shelf = shelf_with(2, ((0, (1, 2, 3, 4), (10, 20, 30, 40), None, None),), 0)
        walk = SeenWalk(shelf, ("put", 4, 41))
        self.assert_step(walk, ("put", 0, 40, 1), 1, 2)
        self.assert_step(walk, ("raised", 0, 2), 1, 1)
        self.assert_over(walk, 40)
        self.assertEqual(leaf_table(pages_of(shelf)), {1: 10, 2: 20, 3: 30, 4: 41})

    def test_great_keys_and_worths(self):
        shelf = Shelf(2)
        rows = run_all(shelf, [("put", BIG, -BIG), ("put", -BIG, BIG), ("put", BIG - 1, BIG), ("put", BIG, BIG)])
        self.assertEqual(rows[2:], [[("put", 0, None, 1), ("raised", 0, 2)], [("down", 2, 1), ("put", 1, -BIG, None)]])
        wanted = [
            (0, (-BIG,), (BIG,), BIG - 1, 1),
            (0, (BIG - 1, BIG), (BIG, BIG), None, None),
            (1, (BIG - 1,), (0, 1), None, None),
        ]
        self.assertEqual(pages_of(shelf), wanted)


class Cut(WalkTest):
    def test_of_a_key_that_is_there(self):
        shelf = shelf_with(2, TWO_LEVELS, 2)
        walk = SeenWalk(shelf, ("cut", 20))
        self.assert_step(walk, ("down", 2, 1))
        self.assert_not_over(walk)
        self.assert_step(walk, ("cut", 1, 200), 1, 1)
        self.assert_over(walk, 200)
        self.assertEqual(pages_of(shelf), [TWO_LEVELS[0], (0, (22,), (220,), 30, 3)] + list(TWO_LEVELS[2:]))

    def test_of_a_key_that_is_not_there(self):
        for root, key in ((2, 25), (1, 21), (0, -BIG)):
            shelf = shelf_with(2, TWO_LEVELS, root)
            writings = shelf.writings()
            rows = run(shelf, ("cut", key))
            self.assertEqual(rows[-1], ("cut", 0 if key < 0 else 1, None))
            self.assertEqual(shelf.writings(), writings)
            self.assertEqual(pages_of(shelf), list(TWO_LEVELS))

    def test_of_a_worth_of_nought(self):
        shelf = shelf_with(2, THREE_LEVELS, 3)
        walk = SeenWalk(shelf, ("cut", 30))
        self.assert_step(walk, ("cut", 3, 0), 1, 1)
        self.assert_over(walk, 0)
        self.assertEqual(shelf.read(3), (0, (31,), (310,), None, None))

    def test_of_the_last_key_leaves_an_empty_leaf(self):
        shelf = shelf_with(2, TWO_LEVELS, 2)
        self.assertEqual(run(shelf, ("cut", 10)), [("down", 2, 0), ("cut", 0, 100)])
        self.assertEqual(shelf.read(0), (0, (), (), 20, 1))
        self.assertEqual(run(shelf, ("cut", 10)), [("down", 2, 0), ("cut", 0, None)])
        self.assertEqual(run(shelf, ("find", 10)), [("down", 2, 0), ("found", 0, None)])

    def test_a_leaf_beyond_its_room_is_not_parted(self):
        shelf = shelf_with(2, ((0, (1, 2, 3, 4), (10, 20, 30, 40), None, None),), 0)
        walk = SeenWalk(shelf, ("cut", 4))
        self.assert_step(walk, ("cut", 0, 40), 1, 1)
        self.assert_over(walk, 40)
        self.assertEqual(pages_of(shelf), [(0, (1, 2, 3), (10, 20, 30), None, None)])

    def test_great_keys(self):
        shelf = shelf_with(2, ((0, (-BIG, BIG), (BIG, -BIG), None, None),), 0)
        self.assertEqual(run(shelf, ("cut", BIG)), [("cut", 0, -BIG)])
        self.assertEqual(run(shelf, ("cut", BIG)), [("cut", 0, None)])
        self.assertEqual(run(shelf, ("cut", -BIG)), [("cut", 0, BIG)])
        self.assertEqual(pages_of(shelf), [EMPTY])


class Stretch(WalkTest):
    def test_over_several_leaves(self):
        shelf = shelf_with(2, TWO_LEVELS, 2)
        walk = SeenWalk(shelf, ("stretch", 5, 40))
        self.assert_step(walk, ("down", 2, 0))
        self.assert_step(walk, ("read", 0, ((10, 100),), 1, 20))
        self.assert_not_over(walk)
        self.assert_step(walk, ("read", 1, ((20, 200), (22, 220)), 3, 30))
        self.assert_not_over(walk)
        self.assert_step(walk, ("read", 3, ((30, 300),), None, None))
        self.assert_over(walk, [(10, 100), (20, 200), (22, 220), (30, 300)])
        self.assertEqual(pages_of(shelf), list(TWO_LEVELS))

    def test_within_one_leaf(self):
        walk = SeenWalk(shelf_with(2, TWO_LEVELS, 1), ("stretch", 21, 23))
        self.assert_step(walk, ("read", 1, ((22, 220),), None, None))
        self.assert_over(walk, [(22, 220)])

    def test_low_is_in_and_high_is_out(self):
        shelf = shelf_with(2, TWO_LEVELS, 1)
        self.assertEqual(run(shelf, ("stretch", 20, 22)), [("read", 1, ((20, 200),), None, None)])
        self.assertEqual(run(shelf, ("stretch", 22, 23)), [("read", 1, ((22, 220),), None, None)])
        self.assertEqual(run(shelf, ("stretch", 21, 22)), [("read", 1, (), None, None)])

    def test_around_the_leafs_high(self):
        shelf = shelf_with(2, TWO_LEVELS, 1)
        pairs = ((20, 200), (22, 220))
        self.assertEqual(run(shelf, ("stretch", 20, 29)), [("read", 1, pairs, None, None)])
        self.assertEqual(run(shelf, ("stretch", 20, 30)), [("read", 1, pairs, None, None)])
        rows = run(shelf, ("stretch", 20, 31))
        self.assertEqual(rows, [("read", 1, pairs, 3, 30), ("read", 3, ((30, 300),), None, None)])

    def test_over_none_of_the_keys(self):
        shelf = shelf_with(2, THREE_LEVELS, 6)
        walk = SeenWalk(shelf, ("stretch", 13, 25))
        self.assertEqual(walk.step(), ("down", 6, 4))
        self.assertEqual(walk.step(), ("down", 4, 1))
        self.assert_step(walk, ("read", 1, (), 2, 20))
        self.assert_step(walk, ("read", 2, (), None, None))
        self.assert_over(walk, [])
        self.assertEqual(run(Shelf(2), ("stretch", 0, 1)), [("read", 0, (), None, None)])

    def test_over_an_empty_leaf_between(self):
        rows = run(shelf_with(2, THREE_LEVELS, 1), ("stretch", 12, 31))
        wanted = [("read", 1, ((12, 120),), 2, 20), ("read", 2, (), 3, 30), ("read", 3, ((30, 0),), None, None)]
        self.assertEqual(rows, wanted)

    def test_to_the_side_ahead_of_the_first_read(self):
        rows = run(shelf_with(2, TWO_LEVELS, 0), ("stretch", 22, 40))
        wanted = [("side", 0, 1), ("read", 1, ((22, 220),), 3, 30), ("read", 3, ((30, 300),), None, None)]
        self.assertEqual(rows, wanted)

    def test_a_leaf_that_is_parted_between_two_reads(self):
        shelf = shelf_with(2, TWO_LEVELS, 2)
        walk = SeenWalk(shelf, ("stretch", 10, 100))
        self.assertEqual([walk.step(), walk.step()], [("down", 2, 0), ("read", 0, ((10, 100),), 1, 20)])
        self.assertEqual(run(shelf, ("put", 24, 240))[1], ("put", 1, None, 4))
        run(shelf, ("put", 15, 150))
        self.assert_step(walk, ("read", 1, ((20, 200),), 4, 22))
        self.assert_step(walk, ("read", 4, ((22, 220), (24, 240)), 3, 30))
        self.assert_step(walk, ("read", 3, ((30, 300), (40, 400)), None, None))
        self.assert_over(walk, [(10, 100), (20, 200), (22, 220), (24, 240), (30, 300), (40, 400)])

    def test_great_keys(self):
        pages = ((0, (-BIG, 0), (BIG, 0), BIG - 1, 1), (0, (BIG - 1, BIG), (5, -BIG), None, None))
        rows = run(shelf_with(2, pages, 0), ("stretch", -BIG, BIG))
        wanted = [("read", 0, ((-BIG, BIG), (0, 0)), 1, BIG - 1), ("read", 1, ((BIG - 1, 5),), None, None)]
        self.assertEqual(rows, wanted)

    def test_the_list_told_is_the_askers_own(self):
        for deed in (("stretch", 5, 40), ("stretch", 11, 12)):
            walk = SeenWalk(shelf_with(2, TWO_LEVELS, 2), deed)
            run_walk(walk)
            first = walk.answer()
            wanted = list(first)
            self.assertIs(type(first), list)
            self.assertIsNot(walk.answer(), walk.answer())
            first.append((7, 7))
            walk.answer().clear()
            self.assertEqual(walk.answer(), wanted)

    def test_what_was_told_stays(self):
        shelf = shelf_with(2, TWO_LEVELS, 1)
        walk = SeenWalk(shelf, ("stretch", 20, 25))
        row = walk.step()
        told = walk.answer()
        run_all(shelf, [("put", 20, 1), ("cut", 22)])
        self.assertEqual(row, ("read", 1, ((20, 200), (22, 220)), None, None))
        self.assertEqual(told, [(20, 200), (22, 220)])
        self.assertEqual(walk.answer(), [(20, 200), (22, 220)])


class Forks(WalkTest):
    def test_a_fork_that_is_parted_and_a_raised_root(self):
        shelf = Shelf(2)
        rows = run_all(shelf, [("put", key, -key) for key in (10, 20, 30, 40, 50)])
        wanted = [
            [("put", 0, None, None)],
            [("put", 0, None, None)],
            [("put", 0, None, 1), ("raised", 0, 2)],
            [("down", 2, 1), ("put", 1, None, 3), ("told", 2, None)],
            [("down", 2, 3), ("put", 3, None, 4), ("told", 2, 5), ("raised", 2, 6)],
        ]
        self.assertEqual(rows, wanted)
        wanted = [
            (0, (10,), (-10,), 20, 1),
            (0, (20,), (-20,), 30, 3),
            (1, (20,), (0, 1), 30, 5),
            (0, (30,), (-30,), 40, 4),
            (0, (40, 50), (-40, -50), None, None),
            (1, (40,), (3, 4), None, None),
            (2, (30,), (2, 5), None, None),
        ]
        self.assertEqual(pages_of(shelf), wanted)
        self.assertEqual(shelf.root(), 6)

    def test_counts_of_each_step_up_to_the_root(self):
        shelf = Shelf(2)
        run_all(shelf, [("put", key, -key) for key in (10, 20, 30, 40)])
        walk = SeenWalk(shelf, ("put", 50, 0))
        self.assert_step(walk, ("down", 2, 3))
        self.assert_step(walk, ("put", 3, None, 4), 1, 2)
        self.assert_not_over(walk)
        self.assert_step(walk, ("told", 2, 5), 1, 2)
        self.assert_not_over(walk)
        self.assertEqual(shelf.root(), 2)
        self.assert_step(walk, ("raised", 2, 6), 1, 1)
        self.assert_over(walk, None)

    def full_tower(self):
        """Three levels of full pages in room 2, only as wide as one way down needs."""
        pages = (
            (0, (2, 4), (20, 40), 10, 1),
            (0, (10,), (100,), 20, 2),
            (0, (20,), (200,), 30, 6),
            (1, (10, 20), (0, 1, 2), 30, 4),
            (1, (), (6,), 50, 5),
            (1, (), (7,), None, None),
            (0, (30,), (300,), 50, 7),
            (0, (50,), (500,), None, None),
            (2, (30, 50), (3, 4, 5), None, None),
        )
        return shelf_with(2, pages, 8)

    def test_forks_of_several_levels_up_to_the_root(self):
        shelf = self.full_tower()
        self.assertEqual(unsound(pages_of(shelf), 8), [])
        walk = SeenWalk(shelf, ("put", 6, 60))
        self.assert_step(walk, ("down", 8, 3))
        self.assert_step(walk, ("down", 3, 0))
        self.assert_step(walk, ("put", 0, None, 9), 1, 2)
        self.assertEqual(shelf.read(0), (0, (2,), (20,), 4, 9))
        self.assertEqual(shelf.read(9), (0, (4, 6), (40, 60), 10, 1))
        self.assert_step(walk, ("told", 3, 10), 1, 2)
        self.assertEqual(shelf.read(3), (1, (4,), (0, 9), 10, 10))
        self.assertEqual(shelf.read(10), (1, (20,), (1, 2), 30, 4))
        self.assert_step(walk, ("told", 8, 11), 1, 2)
        self.assertEqual(shelf.read(8), (2, (10,), (3, 10), 30, 11))
        self.assertEqual(shelf.read(11), (2, (50,), (4, 5), None, None))
        self.assert_not_over(walk)
        self.assert_step(walk, ("raised", 8, 12), 1, 1)
        self.assertEqual(shelf.read(12), (3, (30,), (8, 11), None, None))
        self.assert_over(walk, None)
        self.assertEqual(unsound(pages_of(shelf), shelf.root()), [])

    def test_the_answer_is_the_old_worth_behind_all_forks(self):
        pages = ((0, (1, 2, 3), (10, 0, 30), None, None),)
        walk = SeenWalk(shelf_with(2, pages, 0), ("put", 2, 21))
        self.assert_step(walk, ("put", 0, 0, 1), 1, 2)
        self.assert_not_over(walk)
        self.assert_step(walk, ("raised", 0, 2), 1, 1)
        self.assert_over(walk, 0)

    def test_the_parting_key_not_the_deeds_leads(self):
        # The deed's key 4 leads to fork 3, the parting key 10 of its leaf to the fork at its side.
        pages = (
            (0, (1, 10, 11), (0, 0, 0), 20, 1),
            (0, (20,), (0,), None, None),
            (1, (), (0,), 10, 3),
            (1, (20,), (0, 1), None, None),
        )
        shelf = shelf_with(2, pages, 2)
        walk = SeenWalk(shelf, ("put", 4, 0))
        self.assert_step(walk, ("down", 2, 0))
        self.assert_step(walk, ("put", 0, None, 4), 1, 2)
        self.assert_step(walk, ("side", 2, 3))
        self.assert_not_over(walk)
        self.assert_step(walk, ("told", 3, None), 1, 1)
        self.assertEqual(shelf.read(3), (1, (10, 20), (0, 4, 1), None, None))

    def test_many_puts_in_each_room(self):
        for room in range(2, 9):
            for stride in (1, 7, 96):
                shelf = Shelf(room)
                table = {}
                for turn in range(96):
                    key = (turn * stride + stride) % 97
                    self.assertIn(run(shelf, ("put", key, turn))[-1][0], ("put", "told", "raised"))
                    table[key] = turn
                pages = pages_of(shelf)
                self.assertEqual(leaf_table(pages), table)
                self.assertEqual(unsound(pages, shelf.root()), [])
                self.assertTrue(all(len(page[1]) <= room for page in pages))
                self.assertGreaterEqual(shelf.read(shelf.root())[0], 2 if room < 8 else 1)


class Late(WalkTest):
    """One walk, and what others do between its steps."""

    def test_a_find_goes_to_the_side_of_a_leaf_parted_ahead_of_the_raising(self):
        shelf = Shelf(2)
        run_all(shelf, [("put", 10, 1), ("put", 20, 2)])
        putter = SeenWalk(shelf, ("put", 30, 3))
        self.assert_step(putter, ("put", 0, None, 1), 1, 2)
        finder = SeenWalk(shelf, ("find", 30))
        self.assert_step(finder, ("side", 0, 1))
        self.assert_step(finder, ("found", 1, 3))
        self.assert_step(putter, ("raised", 0, 2), 1, 1)

    def test_a_kept_fork_that_was_parted_meanwhile(self):
        shelf = shelf_with(2, TWO_LEVELS, 2)
        walk = SeenWalk(shelf, ("put", 50, 500))
        self.assert_step(walk, ("down", 2, 3))
        self.assert_step(walk, ("put", 3, None, 4), 1, 2)
        rows = run(shelf, ("put", 24, 240))
        self.assertEqual(rows, [("down", 2, 1), ("put", 1, None, 5), ("told", 2, 6), ("raised", 2, 7)])
        self.assert_step(walk, ("side", 2, 6))
        self.assert_not_over(walk)
        self.assert_step(walk, ("told", 6, None), 1, 1)
        self.assertEqual(shelf.read(6), (1, (30, 40), (5, 3, 4), None, None))
        self.assert_over(walk, None)

    def parted_root(self):
        """A walk that has parted the root leaf at 20 and has not told the forks yet."""
        shelf = Shelf(2)
        run_all(shelf, [("put", 10, 1), ("put", 20, 2)])
        walk = SeenWalk(shelf, ("put", 30, 3))
        self.assert_step(walk, ("put", 0, None, 1), 1, 2)
        return shelf, walk

    def test_a_root_that_another_walk_raised(self):
        shelf, walk = self.parted_root()
        rows = run(shelf, ("put", 40, 4))
        self.assertEqual(rows, [("side", 0, 1), ("put", 1, None, 2), ("raised", 0, 3)])
        self.assertEqual(shelf.read(3), (1, (30,), (0, 2), None, None))
        self.assertEqual(unsound(pages_of(shelf), 3), [])
        self.assert_step(walk, ("told", 3, None), 1, 1)
        self.assertEqual(shelf.read(3), (1, (20, 30), (0, 1, 2), None, None))
        self.assertEqual(shelf.root(), 3)
        self.assert_over(walk, None)

    def test_a_root_that_was_raised_by_two_levels(self):
        shelf, walk = self.parted_root()
        run_all(shelf, [("put", 40, 4), ("put", 50, 5), ("put", 60, 6)])
        self.assertEqual(shelf.read(7), (2, (40,), (3, 6), None, None))
        self.assertEqual((shelf.root(), shelf.read(3)), (7, (1, (30,), (0, 2), 40, 6)))
        self.assert_step(walk, ("down", 7, 3))
        self.assert_not_over(walk)
        self.assert_step(walk, ("told", 3, None), 1, 1)
        self.assertEqual(shelf.read(3), (1, (20, 30), (0, 1, 2), 40, 6))
        self.assert_over(walk, None)

    def test_forks_are_kept_on_the_way_down_from_a_raised_root(self):
        shelf, walk = self.parted_root()
        run_all(shelf, [("put", key, 0) for key in (40, 50, 60, 35, 37)])
        self.assertEqual(shelf.read(3), (1, (30, 35), (0, 2, 8), 40, 6))
        self.assert_step(walk, ("down", 7, 3))
        self.assert_step(walk, ("told", 3, 9), 1, 2)
        # A root above the kept fork 7: were 7 not kept, the walk would come down from there.
        shelf.raise_root(BIG, 0)
        self.assert_step(walk, ("told", 7, None), 1, 1)
        self.assertEqual(shelf.read(7), (2, (30, 40), (3, 9, 6), None, None))
        self.assert_over(walk, None)

    def test_a_parted_root_to_the_side_of_which_the_aim_lies_is_raised_too(self):
        shelf, walk = self.parted_root()
        late = SeenWalk(shelf, ("put", 40, 4))
        self.assert_step(late, ("side", 0, 1))
        self.assert_step(late, ("put", 1, None, 2), 1, 2)
        self.assert_step(late, ("raised", 0, 3), 1, 1)
        self.assert_over(late, None)

    def test_a_root_of_just_the_level_is_not_raised(self):
        shelf, walk = self.parted_root()
        shelf.raise_root(20, shelf.lay(EMPTY))
        self.assert_step(walk, ("told", 3, None), 1, 1)
        self.assertEqual(shelf.root(), 3)

    def test_a_root_of_the_level_that_was_parted_itself(self):
        shelf, walk = self.parted_root()
        right = shelf.lay((1, (30,), (1, 1), None, None))
        shelf.make_root(shelf.lay((1, (15,), (0, 0), 20, right)))
        self.assert_step(walk, ("side", 3, 2))
        self.assert_step(walk, ("told", 2, None), 1, 1)
        self.assertEqual(shelf.read(2), (1, (20, 30), (1, 1, 1), None, None))


if __name__ == "__main__":
    unittest.main()
