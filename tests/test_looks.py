import copy
import unittest

from plain import (BIG, EMPTY, counts_of, deeds_of, kid_counts, leaf_table, pages_of, picker, plain_faults,
                   plain_levels, plain_table, plain_untold, run_walk, shelve)
from sidelink.looks import faults, is_sound, levels, table_of, untold
from sidelink.shelves import Shelf
from sidelink.walks import Walk

# Two forks under a root, the second with one kid alone; all is as it must be.
TREE = (
    (0, (1, 2), (10, 20), 5, 1),
    (0, (5, 6), (50, 60), 9, 2),
    (0, (9,), (90,), None, None),
    (1, (5,), (0, 1), 9, 4),
    (1, (), (2,), None, None),
    (2, (9,), (3, 4), None, None),
)
ROOT = 5
LOOKS = (levels, faults, is_sound, untold, table_of)


def changed(changes, root=ROOT):
    """A shelf with the pages of TREE, some in other form: a dict from a page's number to a dict by places."""
    pages = [list(page) for page in TREE]
    names = ("level", "keys", "parts", "high", "side")
    for number, parts in changes.items():
        for name, part in parts.items():
            pages[number][names.index(name)] = part
    return shelve(Shelf(2), [tuple(page) for page in pages], root)


def grown(room, deeds):
    shelf = Shelf(room)
    for deed in deeds:
        run_walk(Walk(shelf, deed))
    return shelf


def grown_shelves():
    for room in range(2, 9):
        for count in (1, room, room + 1, 3 * room, 60):
            yield grown(room, [("put", key * 37 % 101, key) for key in range(count)])


class Looks(unittest.TestCase):
    """What every look promises."""

    def test_looking_changes_nothing(self):
        for shelf in list(grown_shelves()) + [Shelf(2), changed({}), changed({0: {"side": 0, "keys": (9, 1)}})]:
            ahead = (pages_of(shelf), shelf.root(), shelf.room())
            counts = counts_of(shelf)
            for look in LOOKS + LOOKS:
                look(shelf)
            self.assertEqual(counts_of(shelf), counts)
            self.assertEqual((pages_of(shelf), shelf.root(), shelf.room()), ahead)

    def test_each_list_told_is_the_askers_own(self):
        shelf = changed({1: {"keys": (6, 5)}, 4: {"parts": ()}})
        wanted = {look: copy.deepcopy(look(shelf)) for look in LOOKS}
        self.assertEqual([bool(wanted[look]) for look in LOOKS], [True, True, False, True, True])
        for look in (levels, faults, untold, table_of):
            first, second = look(shelf), look(shelf)
            self.assertIs(type(first), list)
            self.assertIsNot(first, second)
            first.append("spoiled")
            first[0] = "spoiled"
            self.assertEqual(second, wanted[look])
            self.assertEqual({look: look(shelf) for look in LOOKS}, wanted)

    def test_each_levels_list_is_the_askers_own(self):
        shelf = changed({})
        first, second = levels(shelf), levels(shelf)
        for one, other in zip(first, second):
            self.assertIs(type(one), list)
            self.assertIsNot(one, other)
            one.clear()
        self.assertEqual(second, [[5], [3, 4], [0, 1, 2]])
        self.assertEqual(levels(shelf), [[5], [3, 4], [0, 1, 2]])

    def test_empty_lists_are_not_one(self):
        told = levels(changed({5: {"level": 6, "parts": ()}}))
        self.assertEqual(told, [[5], [], [], [], [], [], []])
        told[1].append("spoiled")
        self.assertEqual(told[2:], [[], [], [], [], []])

    def test_what_was_told_stays_when_the_shelf_changes(self):
        shelf = grown(2, [("put", key, key) for key in range(9)])
        told = [look(shelf) for look in LOOKS]
        ahead = copy.deepcopy(told)
        for key in range(20, 40):
            run_walk(Walk(shelf, ("put", key, key)))
        shelf.write(shelf.root(), (0, (3, 2), (), None, 7))
        self.assertEqual(told, ahead)


class Levels(unittest.TestCase):
    def test_a_new_shelf(self):
        for room in range(2, 9):
            self.assertEqual(levels(Shelf(room)), [[0]])

    def test_a_tree_by_hand(self):
        self.assertEqual(levels(changed({})), [[5], [3, 4], [0, 1, 2]])

    def test_other_roots(self):
        self.assertEqual(levels(changed({}, root=3)), [[3, 4], [0, 1, 2]])
        self.assertEqual(levels(changed({}, root=4)), [[4], [2]])
        self.assertEqual(levels(changed({}, root=0)), [[0, 1, 2]])
        self.assertEqual(levels(changed({}, root=1)), [[1, 2]])
        self.assertEqual(levels(changed({}, root=2)), [[2]])

    def test_shelves_that_walks_have_grown(self):
        self.assertEqual(levels(grown(2, [("put", key, 0) for key in (1, 2)])), [[0]])
        self.assertEqual(levels(grown(2, [("put", key, 0) for key in (1, 2, 3)])), [[2], [0, 1]])
        self.assertEqual(levels(grown(2, [("put", key, 0) for key in (3, 2, 1, 0)])), [[2], [0, 1]])
        # Rising keys part the last leaf each time, and the fork 2 at its fourth kid.
        rising = grown(2, [("put", key, 0) for key in range(1, 6)])
        self.assertEqual(levels(rising), [[6], [2, 5], [0, 1, 3, 4]])
        for shelf in grown_shelves():
            pages = pages_of(shelf)
            told = levels(shelf)
            self.assertEqual(told, plain_levels(pages, shelf.root()))
            self.assertEqual(sorted(sum(told, [])), list(range(len(pages))))
            self.assertEqual([[pages[number][0] for number in row] for row in told],
                             [[len(told) - 1 - place] * len(row) for place, row in enumerate(told)])

    def test_between_parting_and_raising_the_root_has_sides(self):
        shelf = grown(2, [("put", 1, 0), ("put", 2, 0)])
        walk = Walk(shelf, ("put", 3, 0))
        self.assertEqual(walk.step(), ("put", 0, None, 1))
        self.assertEqual(levels(shelf), [[0, 1]])
        walk.step()
        self.assertEqual(levels(shelf), [[2], [0, 1]])

    def test_a_side_that_is_no_pages_number(self):
        for side in (-1, -2, -6, -7, 6, 7, 1000, BIG, -BIG, 10 ** 5000, None):
            self.assertEqual(levels(changed({0: {"side": side}})), [[5], [3, 4], [0]])
            self.assertEqual(levels(changed({3: {"side": side}})), [[5], [3], [0, 1, 2]])
            self.assertEqual(levels(changed({5: {"side": side}})), [[5], [3, 4], [0, 1, 2]])
            self.assertEqual(levels(changed({2: {"side": side}})), [[5], [3, 4], [0, 1, 2]])

    def test_a_side_that_leads_to_a_page_on_a_list_already(self):
        for side in (0, 1, 2, 3, 4, 5):
            self.assertEqual(levels(changed({2: {"side": side}})), [[5], [3, 4], [0, 1, 2]])
        for side in (0, 1, 3, 4, 5):
            self.assertEqual(levels(changed({1: {"side": side}})), [[5], [3, 4], [0, 1]])
        for side in (0, 3, 4, 5):
            self.assertEqual(levels(changed({0: {"side": side}})), [[5], [3, 4], [0]])
        for side in (3, 4, 5):
            self.assertEqual(levels(changed({4: {"side": side}})), [[5], [3, 4], [0, 1, 2]])
        for side in (3, 5):
            self.assertEqual(levels(changed({3: {"side": side}})), [[5], [3], [0, 1, 2]])
        self.assertEqual(levels(changed({5: {"side": 5}})), [[5], [3, 4], [0, 1, 2]])

    def test_a_side_that_leads_to_a_page_of_another_level(self):
        # The leaves that the list above has swallowed are not there for the list of level 0.
        self.assertEqual(levels(changed({4: {"side": 1}})), [[5], [3, 4, 1, 2], [0]])
        self.assertEqual(levels(changed({3: {"side": 0}})), [[5], [3, 0, 1, 2], []])
        self.assertEqual(levels(changed({5: {"side": 3}})), [[5, 3, 4], [], []])
        self.assertEqual(levels(changed({5: {"side": 4}})), [[5, 4], [3], [0, 1, 2]])
        self.assertEqual(levels(changed({5: {"side": 2}})), [[5, 2], [3, 4], [0, 1]])
        self.assertEqual(levels(changed({}, root=0)), [[0, 1, 2]])
        self.assertEqual(levels(changed({2: {"side": 5}}, root=0)), [[0, 1, 2, 5]])
        self.assertEqual(levels(changed({2: {"side": 4}}, root=3)), [[3, 4], [0, 1, 2]])
        self.assertEqual(levels(changed({2: {"side": 5}}, root=3)), [[3, 4], [0, 1, 2, 5]])

    def test_a_leftmost_page_without_kids(self):
        self.assertEqual(levels(changed({5: {"parts": ()}})), [[5], [], []])
        self.assertEqual(levels(changed({3: {"parts": ()}})), [[5], [3, 4], []])
        self.assertEqual(levels(changed({4: {"parts": ()}})), [[5], [3, 4], [0, 1, 2]])
        self.assertEqual(levels(changed({0: {"parts": ()}})), [[5], [3, 4], [0, 1, 2]])

    def test_a_first_kid_that_is_no_pages_number(self):
        for kid in (-1, -2, -6, 6, 7, BIG, -BIG, 10 ** 5000):
            self.assertEqual(levels(changed({5: {"parts": (kid, 4)}})), [[5], [], []])
            self.assertEqual(levels(changed({3: {"parts": (kid, 1)}})), [[5], [3, 4], []])
            # A later kid leads nowhere.
            self.assertEqual(levels(changed({5: {"parts": (3, kid)}})), [[5], [3, 4], [0, 1, 2]])

    def test_a_first_kid_that_is_on_a_list_already(self):
        self.assertEqual(levels(changed({5: {"parts": (5, 4)}})), [[5], [], []])
        for kid in (3, 4, 5):
            self.assertEqual(levels(changed({3: {"parts": (kid, 1)}})), [[5], [3, 4], []])

    def test_a_first_kid_in_the_middle(self):
        self.assertEqual(levels(changed({5: {"parts": (4, 3)}})), [[5], [4], [2]])
        self.assertEqual(levels(changed({3: {"parts": (1, 0)}})), [[5], [3, 4], [1, 2]])
        self.assertEqual(levels(changed({5: {"parts": (0, 4)}})), [[5], [0, 1, 2], []])

    def test_the_kids_are_the_parts_whatever_the_pages_own_level(self):
        for level in (0, 2, 7):
            self.assertEqual(levels(changed({3: {"level": level}})), [[5], [3, 4], [0, 1, 2]])
        # A leaf on a list above: its worths are taken as kids.
        self.assertEqual(levels(changed({0: {"parts": (2, 1)}, 5: {"parts": (0, 4)}})), [[5], [0, 1, 2], []])
        self.assertEqual(levels(changed({0: {"parts": (4, 1), "side": None}, 5: {"parts": (0, 4)}})), [[5], [0], [4]])

    def test_a_root_of_another_level(self):
        self.assertEqual(levels(changed({5: {"level": 0}})), [[5]])
        self.assertEqual(levels(changed({5: {"level": 1}})), [[5], [3, 4]])
        # The first worth of leaf 0 is no page's number, or one that is on a list already, or one that isn't.
        self.assertEqual(levels(changed({5: {"level": 3}})), [[5], [3, 4], [0, 1, 2], []])
        self.assertEqual(levels(changed({5: {"level": 5}})), [[5], [3, 4], [0, 1, 2], [], [], []])
        self.assertEqual(levels(changed({5: {"level": 3}, 0: {"parts": (1, 2)}})), [[5], [3, 4], [0, 1, 2], []])
        self.assertEqual(levels(changed({5: {"level": 3}, 0: {"parts": (1, 2), "side": 2}})),
                         [[5], [3, 4], [0, 2], [1]])
        self.assertEqual(levels(changed({0: {"level": 1}}, root=0)), [[0, 1, 2], []])
        self.assertEqual(levels(shelve(Shelf(2), [(3, (), (), None, None)], 0)), [[0], [], [], []])
        self.assertEqual(levels(shelve(Shelf(2), [(3, (), (0,), None, 0)], 0)), [[0], [], [], []])


class Faults(unittest.TestCase):
    def check(self, shelf, wanted):
        told = faults(shelf)
        self.assertEqual(told, wanted)
        self.assertIs(type(told), list)
        self.assertEqual([type(fault) for fault in told], [tuple] * len(told))
        self.assertIs(is_sound(shelf), wanted == [])
        self.assertEqual(plain_faults(pages_of(shelf), shelf.root()), wanted)

    def test_none_where_all_is_as_it_must_be(self):
        self.check(changed({}), [])
        self.check(changed({}, root=3), [])
        self.check(changed({}, root=0), [])
        self.check(Shelf(2), [])
        for shelf in grown_shelves():
            self.check(shelf, [])

    def test_level(self):
        # With as many parts as a page of the level has that it bears, and kids that are right.
        self.check(changed({4: {"level": 2}}), [("level", 4)])
        self.check(changed({4: {"level": BIG}}), [("level", 4)])
        self.check(changed({1: {"level": 1, "parts": (0, 1, 2)}}), [("level", 1)])
        self.check(changed({3: {"level": 2}}, root=5), [("level", 3)])
        self.check(changed({0: {"level": 9, "parts": (0, 0, 0)}, 2: {"level": 1, "parts": (0, 0)}}),
                   [("level", 0), ("level", 2)])

    def test_order_of_the_keys(self):
        self.check(changed({0: {"keys": (2, 1)}}), [("order", 0)])
        self.check(changed({0: {"keys": (2, 2)}}), [("order", 0)])
        self.check(changed({0: {"keys": (1, 2, 4, 3), "parts": (1, 2, 3, 4)}}), [("order", 0)])
        self.check(changed({0: {"keys": (1, 4, 3, 4), "parts": (1, 2, 3, 4)}}), [("order", 0)])
        self.check(changed({0: {"keys": (1, 2, 2, 4), "parts": (1, 2, 3, 4)}}), [("order", 0)])
        self.check(changed({0: {"keys": (1, 2, 3, 4), "parts": (1, 2, 3, 4)}}), [])
        self.check(changed({0: {"keys": (), "parts": ()}}), [])

    def test_a_key_below_the_high_of_the_page_ahead(self):
        self.check(changed({1: {"keys": (4, 6)}}), [("order", 1)])
        self.check(changed({1: {"keys": (5, 6)}}), [])
        self.check(changed({2: {"keys": (8,)}}), [("order", 2)])
        self.check(changed({2: {"keys": (-BIG,)}}), [("order", 2)])
        # The first page has none ahead of it, on its own level.
        self.check(changed({0: {"keys": (-10 ** 40, -BIG)}}), [])
        # On a list whose page ahead has no high, nothing is compared.
        self.check(changed({0: {"high": None}, 1: {"keys": (-5, 6)}}),
                   [("kid", 3, 1), ("links", 0)])

    def test_a_key_at_its_own_high_or_above(self):
        self.check(changed({0: {"keys": (1, 5)}}), [("order", 0)])
        self.check(changed({0: {"keys": (1, 6)}}), [("order", 0)])
        self.check(changed({0: {"keys": (1, 4)}}), [])
        self.check(changed({2: {"keys": (10 ** 40,)}}), [])
        self.check(changed({3: {"keys": (9,)}}), [("order", 3), ("kid", 3, 1)])

    def test_a_high_that_is_not_above_the_high_of_the_page_ahead(self):
        empty = {"keys": (), "parts": ()}
        self.check(changed({1: dict(empty, high=5)}), [("kid", 4, 0), ("order", 1)])
        self.check(changed({1: dict(empty, high=4)}), [("kid", 4, 0), ("order", 1)])
        self.check(changed({1: dict(empty, high=6)}), [("kid", 4, 0)])
        self.check(changed({1: empty}), [])
        self.check(changed({0: dict(empty, high=9)}), [("kid", 3, 1), ("order", 1)])
        # By itself: two lists of leaves without a fork over them.
        pages = [(0, (), (), 5, 1), (0, (), (), 5, 2), (0, (), (), None, None)]
        self.check(shelve(Shelf(2), pages, 0), [("order", 1)])
        pages[1] = (0, (), (), -BIG, 2)
        self.check(shelve(Shelf(2), pages, 0), [("order", 1)])
        pages[1] = (0, (), (), 6, 2)
        self.check(shelve(Shelf(2), pages, 0), [])

    def test_highs_that_are_none_are_compared_with_nothing(self):
        pages = [(0, (50,), (1,), None, 1), (0, (1,), (1,), 5, 2), (0, (), (), None, None)]
        self.check(shelve(Shelf(2), pages, 0), [("links", 0)])
        pages = [(0, (1,), (1,), 5, 1), (0, (70,), (1,), None, 2), (0, (2,), (1,), 3, 3), (0, (3,), (1,), None, None)]
        self.check(shelve(Shelf(2), pages, 0), [("links", 1)])

    def test_great_keys_and_highs(self):
        huge = 10 ** 5000
        pages = [(0, (-huge, -BIG), (1, 2), huge, 1), (0, (huge,), (3,), None, None), (1, (huge,), (0, 1), None, None)]
        self.check(shelve(Shelf(2), pages, 2), [])
        pages[1] = (0, (huge - 1,), (3,), None, None)
        self.check(shelve(Shelf(2), pages, 2), [("order", 1)])
        pages[2] = (1, (huge + 1,), (0, 1), None, None)
        self.check(shelve(Shelf(2), pages, 2), [("kid", 2, 1), ("order", 1)])

    def test_parts(self):
        for parts in ((), (10,), (10, 20, 30)):
            self.check(changed({0: {"parts": parts}}), [("parts", 0)])
        self.check(changed({3: {"parts": (0,)}}), [("parts", 3)])
        self.check(changed({3: {"keys": ()}}), [("parts", 3), ("kid", 3, 1)])
        self.check(changed({4: {"keys": (12,)}}), [("parts", 4)])
        self.check(changed({4: {"parts": ()}}), [("parts", 4)])

    def test_parts_are_counted_by_the_level_that_the_page_has(self):
        self.check(changed({3: {"level": 0}}), [("level", 3), ("parts", 3)])
        self.check(changed({3: {"level": 0, "parts": (0,)}}), [("level", 3)])
        self.check(changed({1: {"level": 1}}), [("level", 1), ("parts", 1)])
        self.check(changed({1: {"level": 2, "parts": (0, 0, 0)}}), [("level", 1)])

    def test_links_with_just_one_of_high_and_side(self):
        self.check(changed({5: {"high": 99}}), [("links", 5)])
        self.check(changed({2: {"high": 99}}), [("links", 2)])
        self.check(changed({4: {"high": 99}}), [("links", 4)])
        pages = [(0, (1,), (1,), None, 1), (0, (2,), (2,), None, None)]
        self.check(shelve(Shelf(2), pages, 0), [("links", 0)])
        pages[0] = (0, (1,), (1,), 2, 1)
        self.check(shelve(Shelf(2), pages, 0), [])
        pages[0] = (0, (1,), (1,), 2, None)
        self.check(shelve(Shelf(2), pages, 0), [("links", 0)])
        pages[0] = (0, (), (), 0, None)
        self.check(shelve(Shelf(2), pages, 0), [("links", 0)])
        pages[0] = (0, (1,), (1,), None, 0)
        self.check(shelve(Shelf(2), pages, 0), [("links", 0)])

    def test_a_side_that_is_not_the_next_on_its_list(self):
        for side in (-1, 0, 1, 2, 3, 4, 5, 6, BIG, -BIG, 10 ** 5000):
            self.check(changed({2: {"high": 99, "side": side}}), [("links", 2)])
        for side in (-1, 3, 4, 5, 6, BIG):
            self.check(changed({4: {"high": 99, "side": side}}), [("links", 4)])
        for side in (-1, 5, 6):
            self.check(changed({5: {"high": 99, "side": side}}), [("links", 5)])

    def test_a_kid_that_is_not_on_the_list_beneath(self):
        for kid in (-1, 3, 4, 5, 6, BIG, -10 ** 5000):
            self.check(changed({3: {"parts": (0, kid)}}), [("kid", 3, 1)])
            self.check(changed({4: {"parts": (kid,)}}), [("kid", 4, 0)])
        for kid in (-1, 0, 1, 2, 5, 6):
            self.check(changed({5: {"parts": (3, kid)}}), [("kid", 5, 1)])
        # No list beneath at all.
        self.check(changed({5: {"parts": (6, 4)}}), [("kid", 5, 0), ("kid", 5, 1)])
        self.check(changed({3: {"parts": (-1, 1)}}), [("kid", 3, 0), ("kid", 3, 1), ("kid", 4, 0)])
        # A page of the right level that no side leads to.
        pages = [(0, (1,), (1,), None, None), (0, (5,), (5,), None, None), (1, (5,), (0, 1), None, None)]
        self.check(shelve(Shelf(2), pages, 2), [("kid", 2, 1)])

    def test_a_kid_that_begins_elsewhere(self):
        self.check(changed({3: {"parts": (0, 2)}}), [("kid", 3, 1)])
        self.check(changed({3: {"parts": (0, 0)}}), [("kid", 3, 1)])
        self.check(changed({4: {"parts": (1,)}}), [("kid", 4, 0)])
        self.check(changed({4: {"parts": (0,)}}), [("kid", 4, 0)])
        self.check(changed({5: {"parts": (3, 3)}}), [("kid", 5, 1)])
        for key in (4, 6):
            self.check(changed({3: {"keys": (key,)}}), [("kid", 3, 1)])
        for key in (8, 10):
            self.check(changed({5: {"keys": (key,)}}), [("kid", 5, 1)])
        # A page told twice fits but once.
        self.check(changed({3: {"keys": (5, 6), "parts": (0, 1, 1)}}), [("kid", 3, 2)])
        self.check(changed({3: {"keys": (4, 5), "parts": (0, 0, 1)}}), [("kid", 3, 1)])

    def test_a_page_that_no_fork_tells_is_no_fault(self):
        self.check(changed({3: {"keys": (), "parts": (0,)}}), [])
        self.check(changed({5: {"keys": (), "parts": (3,)}}), [])
        # A fork that leaves out the middle one.
        pages = [(0, (1,), (1,), 5, 1), (0, (5,), (5,), 9, 2), (0, (9,), (9,), None, None),
                 (1, (9,), (0, 2), None, None)]
        self.check(shelve(Shelf(2), pages, 3), [])

    def test_the_first_place_goes_by_the_page_ahead(self):
        # The page ahead of fork 4 ends at 8 now, and leaf 2 begins at 9.
        self.check(changed({3: {"high": 8}}), [("kid", 5, 1), ("kid", 4, 0)])
        self.check(changed({3: {"high": 8}, 5: {"keys": (8,)}}), [("kid", 4, 0)])
        # A page ahead without a high: the kid must be the first one beneath.
        self.check(changed({3: {"high": None}, 5: {"parts": (3,), "keys": ()}}), [("links", 3), ("kid", 4, 0)])
        self.check(changed({3: {"high": None}, 4: {"parts": (0,)}, 5: {"parts": (3,), "keys": ()}}), [("links", 3)])
        # A leftmost fork whose first kid is on the list above, so that there is no list beneath.
        self.check(changed({5: {"parts": (5, 4)}}), [("kid", 5, 0), ("kid", 5, 1)])

    def test_a_high_that_is_none_ahead_of_a_kid(self):
        pages = [(0, (1,), (1,), None, 1), (0, (5,), (5,), None, None), (1, (5,), (0, 1), None, None)]
        self.check(shelve(Shelf(2), pages, 2), [("kid", 2, 1), ("links", 0)])
        # Told at a first place, where nothing is ahead either, it fits.
        pages[2] = (1, (), (0,), None, 3)
        pages.append((1, (), (1,), None, None))
        self.check(shelve(Shelf(2), pages, 2), [("links", 2), ("links", 0)])

    def test_a_place_without_a_key_ahead(self):
        self.check(changed({4: {"parts": (2, 2)}}), [("parts", 4), ("kid", 4, 1)])
        self.check(changed({3: {"parts": (0, 1, 2)}}), [("parts", 3), ("kid", 3, 2)])
        self.check(changed({3: {"parts": (0, 1, 0, 7)}}), [("parts", 3), ("kid", 3, 2), ("kid", 3, 3)])
        # The first one on the list beneath, whose begin is None, fits no such place either.
        self.check(changed({3: {"keys": (), "parts": (0, 0)}}), [("parts", 3), ("kid", 3, 1)])

    def test_kids_whatever_the_pages_own_level(self):
        for level in (0, 2, 9):
            told = [("level", 3)] + ([("parts", 3)] if level == 0 else [])
            self.check(changed({3: {"level": level}}), told)
            self.check(changed({3: {"level": level, "parts": (0, 2)}}), told + [("kid", 3, 1)])
        # A leaf on the list above: its worths are its kids.
        self.check(changed({3: {"level": 0, "keys": (5, 6)}}), [("level", 3)])
        self.check(changed({3: {"level": 0, "keys": (6, 7)}}), [("level", 3), ("kid", 3, 1)])

    def test_no_kids_of_the_pages_on_the_list_of_level_0(self):
        self.check(changed({1: {"level": 1, "parts": (70, 80, 90)}}), [("level", 1)])
        self.check(changed({5: {"level": 0}}), [("parts", 5)])
        self.check(changed({5: {"level": 0, "parts": (-4,)}}), [])
        self.check(changed({2: {"high": 99, "side": 3}}, root=0), [("level", 3), ("order", 3), ("level", 4)])

    def test_a_root_of_another_level(self):
        self.check(changed({5: {"level": 1}}), [("level", 3), ("level", 4)])
        self.check(changed({5: {"level": 3}}),
                   [("level", 3), ("level", 4), ("level", 0), ("kid", 0, 0), ("kid", 0, 1), ("level", 1),
                    ("kid", 1, 0), ("kid", 1, 1), ("level", 2), ("kid", 2, 0)])
        self.check(shelve(Shelf(2), [(2, (), (), None, None)], 0), [("parts", 0)])
        self.check(shelve(Shelf(2), [(2, (), (0,), None, None)], 0), [("kid", 0, 0)])

    def test_all_five_of_one_page_in_their_order(self):
        shelf = changed({4: {"level": 7, "keys": (9, 8), "parts": (1, 2), "high": 8, "side": None}})
        self.check(shelf, [("level", 4), ("order", 4), ("parts", 4), ("links", 4), ("kid", 4, 0)])
        shelf = changed({4: {"level": 7, "keys": (9, 8), "parts": (1, 2, 6, 6), "high": None, "side": 3}})
        self.check(shelf, [("level", 4), ("order", 4), ("parts", 4), ("links", 4), ("kid", 4, 0), ("kid", 4, 2),
                           ("kid", 4, 3)])

    def test_each_pair_of_the_five(self):
        ways = {"level": {"level": 7}, "order": {"keys": (8,), "parts": (2, 2)}, "parts": {"parts": (2,) * 3},
                "links": {"high": 99}, "kid": {"parts": (6,)}}
        both = {"order links": [("order", 4), ("links", 4), ("kid", 4, 1)], "level links": [("level", 4), ("links", 4)],
                "level kid": [("level", 4), ("kid", 4, 0)], "links kid": [("links", 4), ("kid", 4, 0)],
                "level order": [("level", 4), ("order", 4), ("kid", 4, 1)],
                "level parts": [("level", 4), ("parts", 4), ("kid", 4, 1), ("kid", 4, 2)],
                "parts links": [("parts", 4), ("links", 4), ("kid", 4, 1), ("kid", 4, 2)],
                "order parts": [("order", 4), ("parts", 4), ("kid", 4, 1), ("kid", 4, 2)],
                "order kid": [("order", 4), ("parts", 4), ("kid", 4, 0)]}
        for pair, wanted in both.items():
            first, second = pair.split()
            with self.subTest(pair=pair):
                self.check(changed({4: dict(ways[first], **ways[second])}), wanted)

    def test_levels_from_above_and_pages_from_the_left(self):
        wrong = {number: {"level": 8} for number in range(5)}
        self.check(changed(wrong), [("level", 3), ("level", 4), ("level", 0), ("parts", 0), ("level", 1), ("parts", 1),
                                    ("level", 2), ("parts", 2)])
        swallowed = changed({number: {"high": None} for number in (0, 1, 3)})
        self.check(swallowed, [("kid", 5, 1), ("links", 3), ("kid", 3, 1), ("links", 0), ("links", 1)])
        # By the place on the list, not by the page's number.
        pages = [(0, (7, 6), (1, 2), None, None), (0, (2, 1), (1, 2), 6, 0), (0, (-2, -3), (1, 2), 1, 1),
                 (1, (1, 6), (2, 1, 0), None, None)]
        self.check(shelve(Shelf(2), pages, 3), [("order", 2), ("order", 1), ("order", 0)])

    def test_places_rising(self):
        self.check(changed({5: {"keys": (9, 10, 11), "parts": (7, 7, 4, 3)}}), [("kid", 5, 0), ("kid", 5, 1),
                                                                               ("kid", 5, 2), ("kid", 5, 3)])
        self.check(changed({5: {"keys": (8, 9, 11), "parts": (3, 7, 4, 3)}}), [("kid", 5, 1), ("kid", 5, 3)])


class Sound(unittest.TestCase):
    def test_true_and_false(self):
        self.assertIs(is_sound(changed({})), True)
        self.assertIs(is_sound(Shelf(8)), True)
        self.assertIs(is_sound(changed({5: {"high": 1}})), False)
        self.assertIs(is_sound(changed({0: {"keys": (2, 1)}})), False)


class Untold(unittest.TestCase):
    def test_none_where_all_walks_are_over(self):
        self.assertEqual(untold(Shelf(2)), [])
        self.assertEqual(untold(changed({})), [])
        for shelf in grown_shelves():
            self.assertEqual(untold(shelf), [])
            self.assertEqual(kid_counts(pages_of(shelf)).count(0), 1)

    def test_the_new_page_while_a_walk_has_still_to_tell_the_fork(self):
        shelf = grown(2, [("put", key, 0) for key in range(1, 5)])
        self.assertEqual(levels(shelf), [[2], [0, 1, 3]])
        walk = Walk(shelf, ("put", 5, 0))
        rows = []
        lists = []
        while not walk.over():
            rows.append(walk.step())
            lists.append((levels(shelf), untold(shelf)))
        self.assertEqual(rows, [("down", 2, 3), ("put", 3, None, 4), ("told", 2, 5), ("raised", 2, 6)])
        self.assertEqual(lists, [([[2], [0, 1, 3]], []), ([[2], [0, 1, 3, 4]], [4]),
                                 ([[2, 5], [0, 1, 3, 4]], []), ([[6], [2, 5], [0, 1, 3, 4]], [])])

    def test_a_new_page_beside_a_fork_that_is_not_the_root(self):
        shelf = grown(2, [("put", key, 0) for key in range(1, 6)])
        self.assertEqual(levels(shelf), [[6], [2, 5], [0, 1, 3, 4]])
        walk = Walk(shelf, ("put", 6, 0))
        told = []
        while not walk.over():
            told.append((walk.step(), untold(shelf)))
        self.assertEqual(told, [(("down", 6, 5), []), (("down", 5, 4), []), (("put", 4, None, 7), [7]),
                                (("told", 5, None), [])])

    def test_several_of_one_level_from_the_left(self):
        # Every walk parts its leaf, and none has told a fork yet.
        shelf = grown(2, [("put", key * 10, 0) for key in range(1, 9)])
        pages = pages_of(shelf)
        walks = [Walk(shelf, ("put", page[1][-1] - 1, 0)) for page in pages[::-1] if page[0] == 0]
        walks += [Walk(shelf, ("put", page[1][-1] - 2, 0)) for page in pages[::-1] if page[0] == 0]
        for walk in walks:
            while walk.step()[0] != "put":
                pass
        told = untold(shelf)
        self.assertGreater(len(told), 3)
        self.assertNotEqual(told, sorted(told))
        leaves = levels(shelf)[-1]
        self.assertEqual(told, sorted(told, key=leaves.index))
        self.assertEqual(told, plain_untold(pages_of(shelf), shelf.root()))
        self.assertTrue(is_sound(shelf))

    def test_by_hand(self):
        self.assertEqual(untold(changed({3: {"parts": (0,)}})), [1])
        self.assertEqual(untold(changed({4: {"parts": ()}})), [2])
        self.assertEqual(untold(changed({3: {"parts": (0,)}, 4: {"parts": (7,)}})), [1, 2])
        self.assertEqual(untold(changed({3: {"parts": (0, 2)}, 4: {"parts": (1,)}})), [])
        # Level by level from above.
        self.assertEqual(untold(changed({5: {"parts": (3,)}, 4: {"parts": ()}})), [4, 2])
        self.assertEqual(untold(changed({5: {"parts": (3,)}, 3: {"parts": (0,)}})), [4, 1])
        # A page is told by the list right above alone.
        self.assertEqual(untold(changed({5: {"parts": (3, 4, 1)}, 3: {"parts": (0,)}})), [1])
        # The pages of the top level are not looked at, and neither are pages on no list.
        self.assertEqual(untold(changed({}, root=3)), [])
        self.assertEqual(untold(changed({}, root=0)), [])
        self.assertEqual(untold(changed({}, root=4)), [])
        # Fork 4 on the top list: its kid is told by none of the list above it.
        self.assertEqual(untold(changed({5: {"side": 4}})), [2])
        self.assertEqual(untold(changed({5: {"parts": (3,), "side": 4}})), [2])

    def test_whatever_the_pages_own_level(self):
        self.assertEqual(untold(changed({3: {"level": 0}, 4: {"level": 0}})), [])
        self.assertEqual(untold(changed({5: {"level": 3}})), [])
        self.assertEqual(untold(changed({5: {"level": 1}})), [])
        # Leaf 1 as a kid of leaf 0, which is on the list above; the others there are no kids.
        shelf = changed({5: {"level": 3, "side": None}, 0: {"parts": (1, 7), "side": None}})
        self.assertEqual(levels(shelf), [[5], [3, 4], [0], [1, 2]])
        self.assertEqual(untold(shelf), [2])


class Tables(unittest.TestCase):
    def test_no_pairs(self):
        self.assertEqual(table_of(Shelf(2)), [])
        self.assertEqual(table_of(changed({5: {"parts": ()}})), [])

    def test_from_the_left(self):
        wanted = [(1, 10), (2, 20), (5, 50), (6, 60), (9, 90)]
        self.assertEqual(table_of(changed({})), wanted)
        self.assertEqual(table_of(changed({}, root=4)), [(9, 90)])
        self.assertEqual(table_of(changed({}, root=0)), wanted)
        self.assertEqual(table_of(changed({}, root=1)), wanted[2:])
        self.assertEqual([type(pair) for pair in table_of(changed({}))], [tuple] * 5)

    def test_of_grown_shelves(self):
        for shelf in grown_shelves():
            table = leaf_table(pages_of(shelf))
            self.assertEqual(table_of(shelf), sorted(table.items()))

    def test_between_the_steps_of_a_walk(self):
        shelf = grown(2, [("put", key, -key) for key in range(1, 6)])
        walk = Walk(shelf, ("put", 6, -6))
        while walk.step()[0] != "put":
            self.assertEqual(table_of(shelf), [(key, -key) for key in range(1, 6)])
        self.assertIs(walk.over(), False)
        self.assertEqual(table_of(shelf), [(key, -key) for key in range(1, 7)])

    def test_as_far_as_keys_and_parts_go(self):
        self.assertEqual(table_of(changed({0: {"parts": (10,)}})), [(1, 10), (5, 50), (6, 60), (9, 90)])
        self.assertEqual(table_of(changed({0: {"parts": ()}})), [(5, 50), (6, 60), (9, 90)])
        self.assertEqual(table_of(changed({0: {"parts": (10, 20, 30)}, 2: {"keys": ()}})),
                         [(1, 10), (2, 20), (5, 50), (6, 60)])

    def test_of_whatever_level(self):
        self.assertEqual(table_of(changed({1: {"level": 3}})), [(1, 10), (2, 20), (5, 50), (6, 60), (9, 90)])
        self.assertEqual(table_of(changed({5: {"level": 1}})), [(5, 0)])
        self.assertEqual(table_of(changed({5: {"level": 0}})), [(9, 3)])
        self.assertEqual(table_of(changed({5: {"level": 3}})), [])

    def test_just_as_they_stand(self):
        # Neither sorted nor each once.
        self.assertEqual(table_of(changed({0: {"keys": (7, 7)}, 1: {"keys": (7, -BIG)}})),
                         [(7, 10), (7, 20), (7, 50), (-BIG, 60), (9, 90)])

    def test_great_keys_and_worths(self):
        pages = [(0, (-BIG, 0, BIG), (BIG, 0, -BIG), None, None)]
        self.assertEqual(table_of(shelve(Shelf(3), pages, 0)), [(-BIG, BIG), (0, 0), (BIG, -BIG)])


class AgainstASecondTelling(unittest.TestCase):
    """Shelves whose pages were changed by chance."""

    def spoil(self, pick, pages):
        number = pick(len(pages))
        level, keys, parts, high, side = pages[number]
        way = pick(7)
        some = pick(len(pages) + 2) - 1
        if way == 0:
            level = pick(4)
        elif way == 1:
            side = (None, some)[pick(2)]
        elif way == 2:
            high = (None, pick(40) - 20)[pick(2)]
        elif way == 3 and keys:
            at = pick(len(keys))
            keys = keys[:at] + ((), (pick(40) - 20,))[pick(2)] + keys[at + pick(2):]
        elif way == 4 and parts:
            at = pick(len(parts))
            parts = parts[:at] + ((), (some,))[pick(2)] + parts[at + pick(2):]
        elif way == 5:
            parts = parts + (some,)
        else:
            keys = keys + (pick(40) - 20,)
        pages[number] = (level, keys, parts, high, side)

    def test_many(self):
        words = {}
        for seed in range(400):
            pick = picker(8000 + seed)
            pages = pages_of(grown(2 + seed % 3, deeds_of(pick, pick(30), 40)))
            for turn in range(1 + pick(6)):
                self.spoil(pick, pages)
                root = pick(len(pages)) if pick(3) == 0 else len(pages) - 1
                shelf = shelve(Shelf(2), pages, root)
                self.assertEqual(levels(shelf), plain_levels(pages, root))
                told = faults(shelf)
                self.assertEqual(told, plain_faults(pages, root))
                self.assertIs(is_sound(shelf), not told)
                self.assertEqual(untold(shelf), plain_untold(pages, root))
                self.assertEqual(table_of(shelf), plain_table(pages, root))
                for fault in told:
                    words[fault[0]] = words.get(fault[0], 0) + 1
        self.assertEqual(sorted(words), ["kid", "level", "links", "order", "parts"])
        self.assertGreater(min(words.values()), 50)

    def test_a_new_shelf_made_by_hand(self):
        self.assertEqual(pages_of(shelve(Shelf(2), [EMPTY], 0)), pages_of(Shelf(2)))


if __name__ == "__main__":
    unittest.main()
