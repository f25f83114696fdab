import unittest

from plain import BIG, EMPTY, counts_of, pages_of, shelf_state
from sidelink.errors import NoPage
from sidelink.shelves import Shelf

LEAF = (0, (10, 20), (100, -200), 30, 1)
LAST_LEAF = (0, (30, 40), (0, 400), None, None)
FORK = (1, (30,), (0, 1), None, None)
WIDE = (0, (-BIG, BIG), (BIG, -BIG), None, None)


def grown():
    """A shelf of two leaves under a fork, which is its root."""
    shelf = Shelf(2)
    shelf.write(0, LEAF)
    shelf.lay(LAST_LEAF)
    shelf.make_root(shelf.lay(FORK))
    return shelf


def wrong_numbers(shelf):
    count = shelf.pages()
    return (-1, -2, -count, -count - 1, count, count + 1, count + 1000, BIG, -BIG, 10 ** 5000, -10 ** 5000)


class NewShelf(unittest.TestCase):
    def test_what_it_has(self):
        for room in range(2, 9):
            shelf = Shelf(room)
            self.assertEqual((shelf.room(), shelf.pages(), shelf.root()), (room, 1, 0))
            self.assertEqual(counts_of(shelf), (0, 0))
            self.assertEqual(shelf.read(0), EMPTY)
            self.assertIs(type(shelf.read(0)), tuple)

    def test_asking_counts_nothing(self):
        shelf = grown()
        ahead = counts_of(shelf)
        for asked in (shelf.root, shelf.room, shelf.pages, shelf.readings, shelf.writings):
            asked()
            asked()
        self.assertEqual(counts_of(shelf), ahead)


class ReadWriteLay(unittest.TestCase):
    def test_each_read_counts_one_reading(self):
        shelf = grown()
        self.assertEqual(counts_of(shelf), (0, 3))
        for count, (number, page) in enumerate(((0, LEAF), (2, FORK), (1, LAST_LEAF), (1, LAST_LEAF)), start=1):
            self.assertEqual(shelf.read(number), page)
            self.assertEqual(counts_of(shelf), (count, 3))

    def test_write_goes_to_the_place_of_the_old_page(self):
        shelf = grown()
        self.assertIsNone(shelf.write(1, WIDE))
        self.assertEqual(counts_of(shelf), (0, 4))
        self.assertEqual((shelf.pages(), shelf.root()), (3, 2))
        self.assertEqual(pages_of(shelf), [LEAF, WIDE, FORK])

    def test_write_of_the_same_page_counts(self):
        shelf = grown()
        shelf.write(0, LEAF)
        shelf.write(0, LEAF)
        self.assertEqual(counts_of(shelf), (0, 5))
        self.assertEqual(pages_of(shelf), [LEAF, LAST_LEAF, FORK])

    def test_write_of_the_root(self):
        shelf = grown()
        shelf.write(2, WIDE)
        self.assertEqual(shelf.root(), 2)
        self.assertEqual(shelf.read(2), WIDE)

    def test_lay_tells_the_numbers_in_order(self):
        shelf = Shelf(3)
        for number in range(1, 40):
            self.assertEqual(shelf.lay((0, (number,), (-number,), None, None)), number)
            self.assertEqual(shelf.pages(), number + 1)
            self.assertEqual(counts_of(shelf), (0, number))
        self.assertEqual(shelf.root(), 0)
        for number in range(1, 40):
            self.assertEqual(shelf.read(number), (0, (number,), (-number,), None, None))
        self.assertEqual(shelf.read(0), EMPTY)

    def test_kids_and_sides_are_not_looked_at(self):
        shelf = Shelf(2)
        page = (3, (5,), (99, -7), 8, 1234)
        self.assertEqual(shelf.lay(page), 1)
        shelf.write(0, page)
        self.assertEqual(pages_of(shelf), [page, page])

    def test_great_keys_and_worths(self):
        shelf = Shelf(2)
        shelf.write(0, WIDE)
        self.assertEqual(shelf.read(0), WIDE)
        self.assertEqual(shelf.read(shelf.lay(WIDE)), WIDE)

    def test_a_page_that_was_told_stays(self):
        shelf = grown()
        told = shelf.read(0)
        shelf.write(0, WIDE)
        self.assertEqual(told, LEAF)

    def test_more_keys_than_the_room_are_kept(self):
        shelf = Shelf(2)
        page = (0, tuple(range(100)), tuple(range(100)), None, None)
        shelf.write(0, page)
        self.assertEqual(shelf.read(0), page)
        self.assertEqual(shelf.pages(), 1)


class MakeRoot(unittest.TestCase):
    def test_any_page_and_nothing_is_counted(self):
        shelf = grown()
        ahead = shelf_state(shelf)[-1]
        counts = counts_of(shelf)
        for number in (1, 0, 0, 2):
            self.assertIsNone(shelf.make_root(number))
            self.assertEqual(shelf.root(), number)
            self.assertEqual(counts_of(shelf), counts)
        self.assertEqual(pages_of(shelf), ahead)


class WrongNumbers(unittest.TestCase):
    def assert_refused(self, shelf, call):
        counts = counts_of(shelf)
        ahead = shelf_state(shelf)[2:]
        shown = counts_of(shelf)
        with self.assertRaises(NoPage):
            call()
        self.assertEqual(counts_of(shelf), shown)
        self.assertEqual(shelf_state(shelf)[2:], ahead)
        self.assertGreater(shown[0], counts[0])

    def test_refused_by_all_four(self):
        for make in (lambda: Shelf(2), grown):
            for number in wrong_numbers(make()):
                shelf = make()
                self.assert_refused(shelf, lambda: shelf.read(number))
                self.assert_refused(shelf, lambda: shelf.write(number, WIDE))
                self.assert_refused(shelf, lambda: shelf.make_root(number))
                self.assert_refused(shelf, lambda: shelf.raise_root(5, number))

    def test_a_number_is_no_more_refused_once_it_is_laid(self):
        shelf = Shelf(2)
        with self.assertRaises(NoPage):
            shelf.read(1)
        shelf.lay(LAST_LEAF)
        self.assertEqual(shelf.read(1), LAST_LEAF)
        with self.assertRaises(NoPage):
            shelf.read(2)


class TwoShelves(unittest.TestCase):
    def test_they_dont_touch_one_another(self):
        one = Shelf(2)
        other = Shelf(5)
        one.write(0, LEAF)
        one.lay(LAST_LEAF)
        one.raise_root(30, 1)
        one.read(2)
        self.assertEqual(shelf_state(other), (0, 0, 0, 5, 1, [EMPTY]))
        other.write(0, WIDE)
        self.assertEqual(shelf_state(one), (1, 3, 2, 2, 3, [LEAF, LAST_LEAF, FORK]))
        self.assertEqual(shelf_state(Shelf(2)), (0, 0, 0, 2, 1, [EMPTY]))


class RaiseRoot(unittest.TestCase):
    def assert_raised(self, shelf, key, number, page):
        ahead = pages_of(shelf)
        readings, writings = counts_of(shelf)
        self.assertEqual(shelf.raise_root(key, number), len(ahead))
        self.assertEqual(counts_of(shelf), (readings, writings + 1))
        self.assertEqual(shelf.root(), len(ahead))
        self.assertEqual(pages_of(shelf), ahead + [page])

    def test_over_a_leaf(self):
        shelf = Shelf(2)
        shelf.write(0, LEAF)
        shelf.lay(LAST_LEAF)
        self.assert_raised(shelf, 30, 1, (1, (30,), (0, 1), None, None))

    def test_over_forks_of_several_levels(self):
        shelf = grown()
        for level in range(2, 7):
            root = shelf.root()
            number = shelf.lay((level - 1, (), (root,), None, None))
            self.assert_raised(shelf, 10 * level, number, (level, (10 * level,), (root, number), None, None))

    def test_the_roots_high_and_side_are_not_taken_over(self):
        shelf = Shelf(2)
        shelf.write(0, (4, (1, 2), (5, 6, 7), 3, 1))
        shelf.lay((4, (), (8,), None, None))
        self.assert_raised(shelf, 3, 1, (5, (3,), (0, 1), None, None))

    def test_over_a_root_that_was_written_over(self):
        shelf = grown()
        shelf.write(2, (6, (), (0,), None, None))
        self.assert_raised(shelf, 7, 1, (7, (7,), (2, 1), None, None))
        shelf = grown()
        shelf.write(2, WIDE)
        self.assert_raised(shelf, 7, 1, (1, (7,), (2, 1), None, None))

    def test_over_a_root_that_was_made(self):
        shelf = grown()
        shelf.make_root(0)
        self.assert_raised(shelf, 30, 1, (1, (30,), (0, 1), None, None))
        shelf.make_root(1)
        self.assert_raised(shelf, 35, 3, (1, (35,), (1, 3), None, None))

    def test_with_pages_of_any_kind(self):
        shelf = grown()
        self.assert_raised(shelf, 0, 2, (2, (0,), (2, 2), None, None))
        self.assert_raised(shelf, 0, 0, (3, (0,), (3, 0), None, None))

    def test_great_keys(self):
        for key in (-BIG, BIG):
            shelf = grown()
            self.assert_raised(shelf, key, 1, (2, (key,), (2, 1), None, None))


class Picture(unittest.TestCase):
    def test_all_pages_by_their_numbers_and_nothing_counted(self):
        shelf = grown()
        self.assertEqual(shelf.picture(), [LEAF, LAST_LEAF, FORK])
        self.assertEqual(counts_of(shelf), (0, 3))
        self.assertEqual(Shelf(2).picture(), [EMPTY])

    def test_the_list_told_is_the_askers_own(self):
        shelf = grown()
        told = shelf.picture()
        told.clear()
        self.assertEqual((shelf.pages(), pages_of(shelf)), (3, [LEAF, LAST_LEAF, FORK]))
        told = shelf.picture()
        shelf.write(0, WIDE)
        self.assertEqual(told, [LEAF, LAST_LEAF, FORK])


if __name__ == "__main__":
    unittest.main()
