import copy
import unittest

from plain import (BIG, EMPTY, PlainTree, PlainWalk, counts_of, kid_counts, leaf_table, pages_of, picker, run_walk,
                   shelf_state, unsound)
from sidelink.errors import NoHand
from sidelink.shelves import Shelf
from sidelink.weavers import Weaver
from sidelink.walks import Walk


def filled(hands, keys=(10, 20), room=2):
    """A weaver over a shelf that has these keys, put ahead."""
    shelf = Shelf(room)
    for key in keys:
        run_walk(Walk(shelf, ("put", key, key * 10)))
    return shelf, Weaver(shelf, hands)


def weaver_state(weaver, shelf):
    return (weaver.idle(), weaver.answers()) + shelf_state(shelf)[2:]


class HandIn(unittest.TestCase):
    def test_numbers_from_0_on(self):
        weaver = Weaver(Shelf(2), 1)
        for number in range(300):
            self.assertEqual(weaver.hand_in(("find", number)), number)
        self.assertIs(weaver.idle(), False)

    def test_the_same_deed_again_has_a_number_of_its_own(self):
        weaver = Weaver(Shelf(2), 1)
        self.assertEqual([weaver.hand_in(("find", 1)) for turn in range(3)], [0, 1, 2])

    def test_numbers_go_on_behind_deeds_that_are_over(self):
        weaver = Weaver(Shelf(2), 2)
        weaver.hand_in(("find", 1))
        weaver.finish()
        self.assertEqual(weaver.hand_in(("find", 2)), 1)
        weaver.move(1)
        self.assertEqual(weaver.hand_in(("find", 3)), 2)

    def test_nothing_is_done_to_the_shelf(self):
        shelf = Shelf(2)
        weaver = Weaver(shelf, 3)
        weaver.hand_in(("put", 1, 2))
        self.assertEqual(shelf_state(shelf), (0, 0, 0, 2, 1, [EMPTY]))


class Moves(unittest.TestCase):
    def test_rest(self):
        for hands in range(1, 9):
            shelf = Shelf(2)
            weaver = Weaver(shelf, hands)
            for hand in range(hands):
                self.assertEqual(weaver.move(hand), ("rest", hand))
                self.assertEqual(weaver.move(hand), ("rest", hand))
            self.assertEqual(counts_of(shelf), (0, 0))
            self.assertIs(weaver.idle(), True)
            self.assertEqual(weaver.answers(), [])

    def test_take_does_no_step(self):
        shelf = Shelf(2)
        weaver = Weaver(shelf, 1)
        weaver.hand_in(("put", 1, 2))
        told = weaver.move(0)
        self.assertEqual(told, ("take", 0, 0))
        self.assertIs(type(told), tuple)
        self.assertEqual(shelf_state(shelf), (0, 0, 0, 2, 1, [EMPTY]))
        self.assertEqual(weaver.answers(), [])
        self.assertIs(weaver.idle(), False)

    def test_the_lowest_waiting_deed_is_taken(self):
        shelf, weaver = filled(3)
        for key in (10, 20, 30, 40):
            weaver.hand_in(("find", key))
        self.assertEqual(weaver.move(2), ("take", 2, 0))
        self.assertEqual(weaver.move(0), ("take", 0, 1))
        self.assertEqual(weaver.move(0), ("found", 0, 1, 0, 200))
        self.assertEqual(weaver.move(0), ("take", 0, 2))
        self.assertEqual(weaver.move(2), ("found", 2, 0, 0, 100))
        self.assertEqual(weaver.move(1), ("take", 1, 3))
        self.assertEqual(weaver.move(2), ("rest", 2))
        self.assertEqual(weaver.hand_in(("cut", 10)), 4)
        self.assertEqual(weaver.move(2), ("take", 2, 4))
        self.assertEqual(weaver.move(2), ("cut", 2, 4, 0, 100))

    def test_a_hand_is_free_as_soon_as_its_walk_is_over(self):
        shelf, weaver = filled(1)
        weaver.hand_in(("find", 10))
        weaver.move(0)
        self.assertIs(weaver.idle(), False)
        self.assertEqual(weaver.move(0), ("found", 0, 0, 0, 100))
        self.assertIs(weaver.idle(), True)
        self.assertEqual(weaver.answers(), [(0, 100)])
        self.assertEqual(weaver.move(0), ("rest", 0))
        weaver.hand_in(("find", 20))
        self.assertEqual(weaver.move(0), ("take", 0, 1))

    def test_each_word_with_hand_and_deed_ahead_of_its_numbers(self):
        shelf, weaver = filled(4)
        deeds = (("put", 30, 3), ("find", 30), ("stretch", 0, 25), ("cut", 20))
        for number, deed in enumerate(deeds):
            self.assertEqual(weaver.hand_in(deed), number)
        # The hands are taken from the last, so that hand and deed are never the same number by chance.
        self.assertEqual([weaver.move(hand) for hand in (3, 2, 1, 0)],
                         [("take", 3, 0), ("take", 2, 1), ("take", 1, 2), ("take", 0, 3)])
        self.assertEqual(weaver.move(3), ("put", 3, 0, 0, None, 1))
        self.assertEqual(weaver.move(2), ("side", 2, 1, 0, 1))
        self.assertEqual(weaver.move(1), ("read", 1, 2, 0, ((10, 100),), 1, 20))
        self.assertEqual(weaver.move(3), ("raised", 3, 0, 0, 2))
        self.assertEqual(weaver.move(0), ("down", 0, 3, 2, 1))
        self.assertEqual(weaver.move(0), ("cut", 0, 3, 1, 200))
        self.assertEqual(weaver.move(1), ("read", 1, 2, 1, (), None, None))
        self.assertEqual(weaver.move(2), ("found", 2, 1, 1, 3))
        self.assertEqual(weaver.hand_in(("put", 40, 4)), 4)
        self.assertEqual(weaver.hand_in(("put", 50, 5)), 5)
        rows = [weaver.move(3) for turn in range(7)]
        wanted = [("take", 3, 4), ("down", 3, 4, 2, 1), ("put", 3, 4, 1, None, None), ("take", 3, 5),
                  ("down", 3, 5, 2, 1), ("put", 3, 5, 1, None, 3), ("told", 3, 5, 2, None)]
        self.assertEqual(rows, wanted)
        self.assertEqual(weaver.answers(), [(0, None), (3, 200), (2, [(10, 100)]), (1, 3), (4, None), (5, None)])
        self.assertIs(weaver.idle(), True)

    def test_a_walk_begins_at_the_root_of_its_first_step_not_of_its_take(self):
        shelf, weaver = filled(2)
        weaver.hand_in(("find", 30))
        weaver.hand_in(("put", 30, 3))
        rows = [weaver.move(hand) for hand in (0, 1, 1, 1, 0)]
        self.assertEqual(rows[2:], [("put", 1, 1, 0, None, 1), ("raised", 1, 1, 0, 2), ("down", 0, 0, 2, 1)])

    def test_one_reading_a_step(self):
        shelf, weaver = filled(2, keys=range(9))
        weaver.hand_in(("stretch", 0, 9))
        weaver.hand_in(("put", 3, 1))
        readings = shelf.readings()
        for row in weaver.finish():
            readings += row[0] not in ("take", "rest")
        self.assertEqual(shelf.readings(), readings)

    def test_two_weavers_dont_touch_one_another(self):
        one, other = Weaver(Shelf(2), 2), Weaver(Shelf(2), 2)
        one.hand_in(("put", 1, 1))
        self.assertIs(other.idle(), True)
        self.assertEqual(other.move(0), ("rest", 0))
        self.assertEqual(other.hand_in(("find", 1)), 0)
        one.finish()
        self.assertEqual(other.answers(), [])
        self.assertEqual([row[0] for row in other.finish()], ["take", "rest", "found"])
        self.assertEqual((one.answers(), other.answers()), ([(0, None)], [(0, None)]))


class WrongHands(unittest.TestCase):
    def test_refused_and_nothing_changed(self):
        for hands in (1, 3, 8):
            shelf, weaver = filled(hands)
            for stage in range(4):
                for hand in (-1, -hands, -hands - 1, hands, hands + 1, 1000, BIG, -BIG, 10 ** 5000):
                    ahead = weaver_state(weaver, shelf)
                    counts = counts_of(shelf)
                    with self.assertRaises(NoHand):
                        weaver.move(hand)
                    self.assertEqual(counts_of(shelf), counts)
                    self.assertEqual(weaver_state(weaver, shelf), ahead)
                if stage == 0:
                    weaver.hand_in(("find", 20))
                elif stage < 3:
                    self.assertEqual(weaver.move(hands - 1), (("take", hands - 1, 0),
                                                              ("found", hands - 1, 0, 0, 200))[stage - 1])

    def test_a_refused_move_takes_no_deed_and_steps_no_walk(self):
        shelf, weaver = filled(2)
        weaver.hand_in(("find", 10))
        weaver.hand_in(("find", 20))
        weaver.move(1)
        with self.assertRaises(NoHand):
            weaver.move(2)
        with self.assertRaises(NoHand):
            weaver.move(-1)
        self.assertEqual(weaver.move(0), ("take", 0, 1))
        self.assertEqual(weaver.move(1), ("found", 1, 0, 0, 100))


class Finish(unittest.TestCase):
    def test_where_nothing_waits_and_none_is_held(self):
        for hands in range(1, 9):
            shelf, weaver = filled(hands)
            counts = counts_of(shelf)
            self.assertEqual(weaver.finish(), [])
            self.assertIs(type(weaver.finish()), list)
            self.assertEqual(counts_of(shelf), counts)

    def test_from_waiting_deeds(self):
        shelf, weaver = filled(2)
        for deed in (("find", 10), ("put", 30, 3), ("find", 30)):
            weaver.hand_in(deed)
        wanted = [
            ("take", 0, 0), ("take", 1, 1),
            ("found", 0, 0, 0, 100), ("put", 1, 1, 0, None, 1),
            ("take", 0, 2), ("raised", 1, 1, 0, 2),
            ("down", 0, 2, 2, 1), ("rest", 1),
            ("found", 0, 2, 1, 3),
        ]
        self.assertEqual(weaver.finish(), wanted)
        self.assertIs(weaver.idle(), True)
        self.assertEqual(weaver.answers(), [(0, 100), (1, None), (2, 3)])
        self.assertEqual(weaver.finish(), [])

    def test_hand_0_is_first_whoever_moved_last(self):
        shelf, weaver = filled(3)
        for key in (10, 20, 30):
            weaver.hand_in(("find", key))
        self.assertEqual(weaver.move(0), ("take", 0, 0))
        self.assertEqual(weaver.move(1), ("take", 1, 1))
        wanted = [("found", 0, 0, 0, 100), ("found", 1, 1, 0, 200), ("take", 2, 2), ("rest", 0), ("rest", 1),
                  ("found", 2, 2, 0, None)]
        self.assertEqual(weaver.finish(), wanted)

    def test_where_only_a_walk_is_held(self):
        shelf, weaver = filled(2)
        weaver.hand_in(("put", 30, 3))
        self.assertEqual([weaver.move(1), weaver.move(1)], [("take", 1, 0), ("put", 1, 0, 0, None, 1)])
        self.assertEqual(weaver.finish(), [("rest", 0), ("raised", 1, 0, 0, 2)])
        self.assertEqual(weaver.answers(), [(0, None)])

    def test_it_ends_with_the_move_that_ends_the_last_walk(self):
        shelf, weaver = filled(8)
        weaver.hand_in(("find", 10))
        rows = [("take", 0, 0)] + [("rest", hand) for hand in range(1, 8)] + [("found", 0, 0, 0, 100)]
        self.assertEqual(weaver.finish(), rows)

    def test_by_one_hand_deeds_come_one_behind_the_other(self):
        weaver = Weaver(Shelf(3), 1)
        for key in range(20):
            weaver.hand_in(("put", key, -key))
        weaver.hand_in(("stretch", 0, 20))
        rows = weaver.finish()
        self.assertEqual([row[2] for row in rows if row[0] == "take"], list(range(21)))
        self.assertEqual([row[2] for row in rows], sorted(row[2] for row in rows))
        self.assertNotIn("rest", [row[0] for row in rows])
        wanted = [(key, None) for key in range(20)] + [(20, [(key, -key) for key in range(20)])]
        self.assertEqual(weaver.answers(), wanted)

    def test_deeds_handed_in_behind_it_are_done_by_the_next_one(self):
        shelf, weaver = filled(2)
        weaver.hand_in(("find", 10))
        weaver.finish()
        weaver.hand_in(("find", 20))
        self.assertEqual(weaver.finish(), [("take", 0, 1), ("rest", 1), ("found", 0, 1, 0, 200)])

    def test_the_list_told_is_the_askers_own(self):
        shelf, weaver = filled(1)
        weaver.hand_in(("find", 10))
        rows = weaver.finish()
        ahead = copy.deepcopy(rows)
        weaver.hand_in(("find", 20))
        weaver.finish()
        self.assertEqual(rows, ahead)
        rows.clear()
        self.assertEqual(weaver.answers(), [(0, 100), (1, 200)])
        self.assertEqual(weaver.finish(), [])
        self.assertIsNot(weaver.finish(), weaver.finish())


class Answers(unittest.TestCase):
    def test_in_the_order_in_which_the_walks_were_over(self):
        shelf, weaver = filled(3)
        weaver.hand_in(("stretch", 0, 99))
        weaver.hand_in(("put", 10, 7))
        weaver.hand_in(("cut", 20))
        for hand in (0, 1, 2):
            weaver.move(hand)
        self.assertEqual(weaver.answers(), [])
        weaver.move(2)
        self.assertEqual(weaver.answers(), [(2, 200)])
        weaver.move(0)
        self.assertEqual(weaver.answers(), [(2, 200), (0, [(10, 100)])])
        weaver.move(1)
        self.assertEqual(weaver.answers(), [(2, 200), (0, [(10, 100)]), (1, 100)])

    def test_none_while_the_forks_are_not_told_yet(self):
        shelf, weaver = filled(1)
        weaver.hand_in(("put", 30, 3))
        weaver.move(0)
        self.assertEqual(weaver.move(0), ("put", 0, 0, 0, None, 1))
        self.assertEqual(weaver.answers(), [])
        weaver.move(0)
        self.assertEqual(weaver.answers(), [(0, None)])

    def test_each_list_told_is_the_askers_own(self):
        shelf, weaver = filled(1)
        weaver.hand_in(("stretch", 0, 99))
        weaver.hand_in(("stretch", 0, 5))
        weaver.finish()
        wanted = [(0, [(10, 100), (20, 200)]), (1, [])]
        first, second = weaver.answers(), weaver.answers()
        self.assertEqual((first, second), (wanted, wanted))
        self.assertIsNot(first, second)
        for place in (0, 1):
            self.assertIsInstance(first[place], tuple)
            self.assertIsNot(first[place][1], second[place][1])
            first[place][1].append("spoiled")
        first.clear()
        self.assertEqual(second, wanted)
        self.assertEqual(weaver.answers(), wanted)

    def test_what_was_told_stays(self):
        shelf, weaver = filled(2)
        weaver.hand_in(("stretch", 0, 99))
        weaver.finish()
        told = weaver.answers()
        ahead = copy.deepcopy(told)
        weaver.hand_in(("put", 10, 0))
        weaver.hand_in(("cut", 20))
        weaver.finish()
        self.assertEqual(told, ahead)
        self.assertEqual(weaver.answers(), ahead + [(1, 100), (2, 200)])

    def test_great_keys_and_worths(self):
        weaver = Weaver(Shelf(2), 3)
        deeds = [("put", BIG, -BIG), ("put", -BIG, BIG), ("put", 0, 0), ("put", BIG, BIG)]
        for deed in deeds:
            weaver.hand_in(deed)
        weaver.finish()
        weaver.hand_in(("stretch", -BIG, BIG))
        weaver.hand_in(("find", BIG))
        weaver.finish()
        self.assertEqual(dict(weaver.answers()), {0: None, 1: None, 2: None, 3: -BIG, 4: [(-BIG, BIG), (0, 0)], 5: BIG})


class Idle(unittest.TestCase):
    def test_through_a_deed(self):
        shelf, weaver = filled(2)
        self.assertIs(weaver.idle(), True)
        weaver.hand_in(("put", 30, 3))
        for move in range(3):
            self.assertIs(weaver.idle(), False)
            weaver.move(1)
        self.assertIs(weaver.idle(), True)

    def test_a_held_walk_of_any_hand_counts(self):
        for hand in range(4):
            weaver = Weaver(Shelf(2), 4)
            weaver.hand_in(("find", 1))
            weaver.move(hand)
            self.assertIs(weaver.idle(), False)

    def test_a_waiting_deed_counts(self):
        shelf, weaver = filled(2)
        weaver.hand_in(("find", 10))
        weaver.hand_in(("find", 20))
        weaver.move(0)
        weaver.move(0)
        self.assertIs(weaver.idle(), False)


class ChangeShelf(unittest.TestCase):
    def test_deeds_go_on_on_the_other_shelf(self):
        shelf, weaver = filled(2)
        weaver.hand_in(("find", 10))
        weaver.finish()
        other, unused = filled(2, keys=(10, 20, 30))
        weaver.change_shelf(other)
        ahead = shelf_state(shelf)
        self.assertEqual(weaver.hand_in(("cut", 10)), 1)
        self.assertEqual([weaver.move(0) for turn in range(3)],
                         [("take", 0, 1), ("down", 0, 1, 2, 0), ("cut", 0, 1, 0, 100)])
        self.assertEqual(weaver.answers(), [(0, 100), (1, 100)])
        self.assertEqual(shelf_state(shelf)[2:], ahead[2:])
        self.assertEqual(leaf_table(pages_of(other)), {20: 200, 30: 300})


class PlainWeaver:
    """The weaver told a second time over plain walks."""

    def __init__(self, room, hands):
        self.tree = PlainTree(room)
        self.waiting = []
        self.held = {hand: None for hand in range(hands)}
        self.answers = []

    def move(self, hand):
        if self.held[hand] is None:
            if not self.waiting:
                return ("rest", hand)
            number, deed = self.waiting.pop(0)
            self.held[hand] = (number, PlainWalk(self.tree, deed))
            return ("take", hand, number)
        number, walk = self.held[hand]
        word, *numbers = walk.step()
        if walk.over:
            self.held[hand] = None
            self.answers.append((number, walk.answer))
        return (word, hand, number, *numbers)

    def finish(self):
        rows = []
        while self.waiting or any(self.held.values()):
            rows.append(self.move(len(rows) % len(self.held)))
        return rows


class AgainstPlainOnes(unittest.TestCase):
    def deed(self, pick):
        word = ("put", "put", "put", "find", "cut", "stretch")[pick(6)]
        key = pick(40) - 20
        if word == "put":
            return (word, key, pick(100))
        return (word, key, key + 1 + pick(30)) if word == "stretch" else (word, key)

    def run_one(self, seed, hands, room):
        pick = picker(9000 + seed)
        shelf = Shelf(room)
        weaver = Weaver(shelf, hands)
        plain = PlainWeaver(room, hands)
        handed = 0
        for turn in range(150):
            if pick(4) == 0:
                deed = self.deed(pick)
                self.assertEqual(weaver.hand_in(deed), handed)
                plain.waiting.append((handed, deed))
                handed += 1
            hand = pick(hands)
            self.assertEqual(weaver.move(hand), plain.move(hand))
            self.assertEqual(weaver.idle(), not plain.waiting and not any(plain.held.values()))
            self.assertEqual(weaver.answers(), plain.answers)
        self.assertEqual(weaver.finish(), plain.finish())
        self.assertEqual(weaver.answers(), plain.answers)
        self.assertEqual(sorted(number for number, answer in weaver.answers()), list(range(handed)))
        pages = pages_of(shelf)
        self.assertEqual((pages, shelf.root()), (plain.tree.pages, plain.tree.root))
        self.assertEqual(unsound(pages, shelf.root()), [])
        self.assertEqual(kid_counts(pages), [int(number != shelf.root()) for number in range(len(pages))])

    def test_many_weavings(self):
        for seed in range(64):
            with self.subTest(seed=seed):
                self.run_one(seed, 1 + seed % 8, 2 + seed // 8 % 7)

    def test_three_hundred_deeds(self):
        for hands in (1, 3, 8):
            weaver = Weaver(Shelf(2), hands)
            plain = PlainWeaver(2, hands)
            pick = picker(hands)
            for number in range(300):
                deed = ("put", pick(1000), number)
                weaver.hand_in(deed)
                plain.waiting.append((number, deed))
            self.assertEqual(weaver.finish(), plain.finish())
            self.assertEqual(weaver.answers(), plain.answers)
            self.assertTrue(leaf_table(plain.tree.pages))


if __name__ == "__main__":
    unittest.main()
