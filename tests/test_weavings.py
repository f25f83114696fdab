"""Several walks on one shelf, stepped by turns in many weavings."""

import unittest

from plain import BIG, PlainTree, PlainWalk, counts_of, deeds_of, kid_counts, leaf_table, pages_of, picker, unsound
from sidelink.shelves import Shelf
from sidelink.walks import Walk

MOMENTS = {"find": "found", "put": "put", "cut": "cut", "stretch": "read"}


class Weaving:
    """Walks on a new shelf beside plain ones; each step is held against the plain table and the plain walk."""

    def __init__(self, test, room, deeds):
        self.test = test
        self.shelf = Shelf(room)
        self.tree = PlainTree(room)
        self.deeds = deeds
        self.walks = [Walk(self.shelf, deed) for deed in deeds]
        self.plain = [PlainWalk(self.tree, deed) for deed in deeds]
        self.table = {}
        self.answers = [None] * len(deeds)
        self.aims = [deed[1] for deed in deeds]
        self.rows = []

    def going(self):
        return [number for number, walk in enumerate(self.walks) if not walk.over()]

    def step(self, number):
        test = self.test
        walk = self.walks[number]
        ahead = counts_of(self.shelf)
        row = walk.step()
        behind = counts_of(self.shelf)
        test.assertEqual(row, self.plain[number].step())
        test.assertEqual(behind[0] - ahead[0], 1)
        test.assertEqual(behind[1] - ahead[1], self.writings(row))
        self.rows.append((number,) + row)
        if row[0] in MOMENTS.values():
            self.do_moment(number, row)
        test.assertEqual(walk.over(), self.plain[number].over)
        test.assertEqual(walk.answer(), self.answers[number] if walk.over() else None)
        self.check_tree()

    def writings(self, row):
        if row[0] in ("put", "told"):
            return 1 if row[-1] is None else 2
        return 1 if row[0] == "raised" or (row[0] == "cut" and row[2] is not None) else 0

    def do_moment(self, number, row):
        """The deed done to a plain table at its moment must tell the same."""
        deed = self.deeds[number]
        self.test.assertEqual(row[0], MOMENTS[deed[0]])
        if deed[0] == "stretch":
            low, high = self.aims[number], deed[2] if row[4] is None else row[4]
            pairs = [(key, self.table[key]) for key in sorted(self.table) if low <= key < high]
            self.test.assertEqual(list(row[2]), pairs)
            self.aims[number] = row[4]
            self.answers[number] = (self.answers[number] or []) + pairs
            return
        old = self.table.get(deed[1])
        self.test.assertEqual(row[2], old)
        self.answers[number] = old
        if deed[0] == "put":
            self.table[deed[1]] = deed[2]
        if deed[0] == "cut":
            self.table.pop(deed[1], None)

    def check_tree(self):
        pages = pages_of(self.shelf)
        root = self.shelf.root()
        self.test.assertEqual((pages, root), (self.tree.pages, self.tree.root))
        self.test.assertEqual(leaf_table(pages), self.table)
        self.test.assertEqual(unsound(pages, root), [])

    def check_end(self):
        pages = pages_of(self.shelf)
        wanted = [1] * len(pages)
        wanted[self.shelf.root()] = 0
        self.test.assertEqual(kid_counts(pages), wanted)
        for walk in self.walks:
            self.test.assertIsNone(walk.step())

    def run_to_end(self, choose):
        steps = 0
        while self.going():
            self.step(choose(self.going()))
            steps += 1
            self.test.assertLess(steps, 100 * len(self.deeds) + 100)
        self.check_end()


class Weavings(unittest.TestCase):
    def test_each_weaving_of_two_puts(self):
        ahead = [("put", key, -key) for key in (10, 20, 30, 40)]
        for pair in ((50, 60), (50, 25), (5, 45), (15, 12), (25, 22), (40, 40)):
            deeds = ahead + [("put", key, key) for key in pair]
            self.assertGreaterEqual(self.every_weaving(2, deeds, len(ahead)), 6)

    def test_each_weaving_of_two_puts_on_a_root_leaf(self):
        ahead = [("put", key, -key) for key in (10, 20)]
        for pair in ((30, 40), (5, 7), (15, 25), (25, 15)):
            deeds = ahead + [("put", key, key) for key in pair]
            self.assertGreater(self.every_weaving(2, deeds, len(ahead)), 3)

    def test_each_weaving_of_three_on_a_root_leaf(self):
        ahead = [("put", key, -key) for key in (10, 20)]
        for three in ((("put", 30, 3), ("put", 40, 4), ("put", 5, 0)),
                      (("put", 30, 3), ("put", 40, 4), ("stretch", 0, 99)),
                      (("put", 30, 3), ("cut", 20), ("find", 20)),
                      (("put", 15, 3), ("cut", 20), ("stretch", 10, 21))):
            self.assertGreater(self.every_weaving(2, ahead + list(three), len(ahead)), 10)

    def every_weaving(self, room, deeds, settled):
        """Goes through all weavings of the deeds behind the settled ones, which are done first; tells how many."""
        weavings = 0
        choices = []
        while True:
            weaving = Weaving(self, room, deeds)
            for number in range(settled):
                while not weaving.walks[number].over():
                    weaving.step(number)
            taken = []
            widths = []

            def choose(going):
                place = len(taken)
                taken.append(choices[place] if place < len(choices) else 0)
                widths.append(len(going))
                return going[taken[place]]

            weaving.run_to_end(choose)
            weavings += 1
            while taken and taken[-1] == widths[len(taken) - 1] - 1:
                taken.pop()
            if not taken:
                return weavings
            choices = taken[:-1] + [taken[-1] + 1]

    def test_many_weavings_of_few_walks(self):
        for seed in range(120):
            pick = picker(seed)
            room = 2 + seed % 7
            deeds = deeds_of(pick, 8 + pick(12), 24)
            with self.subTest(seed=seed):
                Weaving(self, room, deeds).run_to_end(lambda going: going[pick(min(len(going), 4))])

    def test_many_weavings_of_many_walks(self):
        words = {}
        for seed in range(30):
            pick = picker(1000 + seed)
            weaving = Weaving(self, 2 + seed % 3, deeds_of(pick, 40, 60))
            with self.subTest(seed=seed):
                weaving.run_to_end(lambda going: going[pick(len(going))])
            for row in weaving.rows:
                words[row[1]] = words.get(row[1], 0) + 1
        self.assertEqual(sorted(words), ["cut", "down", "found", "put", "raised", "read", "side", "told"])

    def test_all_walks_do_their_first_steps_ahead_of_all_second_ones(self):
        for room in range(2, 9):
            deeds = [("put", key * 37 % 61, key) for key in range(60)]
            weaving = Weaving(self, room, deeds)
            steps = [0] * len(deeds)

            def choose(going):
                number = min(going, key=lambda one: (steps[one], one))
                steps[number] += 1
                return number

            weaving.run_to_end(choose)

    def test_rising_and_falling_keys_all_at_once(self):
        for room in (2, 3, 8):
            for sign in (1, -1):
                pick = picker(room * sign + 50)
                deeds = [("put", sign * key, key) for key in range(50)]
                Weaving(self, room, deeds).run_to_end(lambda going: going[pick(len(going))])

    def test_the_last_one_that_goes_is_always_preferred(self):
        for room in (2, 3, 5):
            deeds = [("put", key * 29 % 53, key) for key in range(52)] + [("stretch", 0, 99)]
            weaving = Weaving(self, room, deeds)
            # Each walk does one step, then the latest ones run to their ends first.
            for number in range(len(deeds)):
                if not weaving.walks[number].over():
                    weaving.step(number)
            weaving.run_to_end(lambda going: going[-1])

    def test_great_keys_and_worths(self):
        pick = picker(77)
        spots = (-BIG, -BIG + 1, -BIG + 2, -1, 0, 1, BIG - 2, BIG - 1, BIG)
        for turn in range(20):
            deeds = [("put", spots[pick(9)], (BIG, -BIG, 0)[pick(3)]) for number in range(12)]
            deeds += [("find", spots[pick(9)]), ("cut", spots[pick(9)]), ("stretch", -BIG, BIG), ("find", BIG)]
            Weaving(self, 2, deeds).run_to_end(lambda going: going[pick(len(going))])


class Kept(unittest.TestCase):
    """That the weavings above go through the cases that only weaving brings."""

    def test_the_cases_come_up(self):
        counts = {"side": 0, "side while telling": 0, "down while telling": 0, "told without a kept fork": 0}
        for seed in range(60):
            pick = picker(5000 + seed)
            weaving = Weaving(self, 2, deeds_of(pick, 40, 80))
            weaving.run_to_end(lambda going: going[pick(len(going))])
            telling = {}
            descended = {}
            for row in weaving.rows:
                number, word = row[:2]
                counts["side"] += word == "side"
                counts["side while telling"] += word == "side" and number in telling
                counts["down while telling"] += word == "down" and number in telling
                counts["told without a kept fork"] += word == "told" and number not in descended
                if word == "down":
                    descended[number] = True
                if word == "put":
                    telling[number] = True
        for case, count in counts.items():
            with self.subTest(case=case):
                self.assertGreater(count, 10)


if __name__ == "__main__":
    unittest.main()
