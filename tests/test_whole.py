"""What holds over the whole program: the interface, that lists are the asker's own, and the promise over weavings."""

import copy
import importlib
import inspect
import unittest

from plain import BIG, deeds_of, kid_counts, leaf_table, pages_of, picker
from sidelink.desk import Desk
from sidelink.looks import faults, is_sound, levels, table_of, untold
from sidelink.orders import judged, moments
from sidelink.packs import packed
from sidelink.shelves import Shelf
from sidelink.walks import Walk
from sidelink.weavers import Weaver

FUNCTIONS = {
    "pages": ("beyond(page, key)", "kid_for(page, key)", "worth_of(page, key)", "with_pair(page, key, worth)",
              "without(page, key)", "with_kid(page, key, kid)"),
    "splits": ("is_full(page, room)", "parted(page, number)"),
    "orders": ("moments(rows)", "judged(rows, deeds, table)"),
    "looks": ("levels(shelf)", "faults(shelf)", "is_sound(shelf)", "untold(shelf)", "table_of(shelf)"),
    "packs": ("packed(table, room)",),
}
CLASSES = {
    "shelves": ("Shelf(room)", "read(number)", "write(number, page)", "lay(page)", "root()", "make_root(number)",
                "raise_root(key, number)", "room()", "pages()", "readings()", "writings()"),
    "walks": ("Walk(shelf, deed)", "step()", "over()", "answer()"),
    "weavers": ("Weaver(shelf, hands)", "hand_in(deed)", "move(hand)", "finish()", "answers()", "idle()"),
    "desk": ("Desk(room, hands)", "say(row)"),
}


class Interface(unittest.TestCase):
    def shown(self, name, called):
        return name + str(inspect.signature(called))

    def test_functions(self):
        for module, wanted in FUNCTIONS.items():
            held = importlib.import_module(f"sidelink.{module}")
            for text in wanted:
                name = text.split("(")[0]
                self.assertEqual(self.shown(name, getattr(held, name)), text)

    def test_classes(self):
        for module, wanted in CLASSES.items():
            name = wanted[0].split("(")[0]
            made = getattr(importlib.import_module(f"sidelink.{module}"), name)
            self.assertEqual(self.shown(name, made), wanted[0])
            for text in wanted[1:]:
                name = text.split("(")[0]
                method = getattr(made, name)
                self.assertEqual(self.shown(name, method).replace("(self, ", "(").replace("(self)", "()"), text)


def lists_in(told):
    """All lists within what was told, itself among them."""
    found = [told] if isinstance(told, list) else []
    if isinstance(told, (list, tuple)):
        for part in told:
            found += lists_in(part)
    return found


class OwnLists(unittest.TestCase):
    def asked(self, shelf, weaver, walk, rows, deeds, table):
        """Everything that tells lists, asked once; the lists handed in must stay as they were."""
        handed = (rows, deeds, table)
        ahead = copy.deepcopy(handed)
        told = [weaver.answers(), walk.answer(), moments(rows), judged(rows, deeds, table), levels(shelf),
                faults(shelf), untold(shelf), table_of(shelf), weaver.finish()]
        self.assertEqual(handed, ahead)
        return told

    def test_no_two_lists_told_are_one_and_none_changes(self):
        for seed in range(30):
            pick = picker(300 + seed)
            table = [(key, key) for key in range(pick(20))]
            shelf = packed(table, 2 + seed % 7)
            walk = Walk(shelf, ("stretch", 0, 99))
            while not walk.over():
                walk.step()
            weaver = Weaver(shelf, 3)
            deeds = deeds_of(pick, 20, 40) + [("stretch", -99, 99)] * 2 + [("stretch", 500, 501)] * 2
            for deed in deeds:
                weaver.hand_in(deed)
            rows = weaver.finish()
            kept = [rows, table, deeds]
            copies = copy.deepcopy(kept)
            for turn in range(3):
                told = self.asked(shelf, weaver, walk, rows, deeds, table)
                kept.append(told)
                copies.append(copy.deepcopy(told))
                weaver.hand_in(("put", pick(60), 7))
                weaver.hand_in(("cut", pick(60)))
                weaver.finish()
                shelf.write(0, (0, (-100,), (turn,)) + shelf.read(0)[3:])
            self.assertEqual(kept, copies)
            numbers = [id(one) for one in lists_in(kept)]
            self.assertEqual(len(numbers), len(set(numbers)))

    def test_spoiling_what_was_told_changes_nothing(self):
        shelf = packed([(key, key) for key in range(30)], 2)
        weaver = Weaver(shelf, 2)
        deeds = [("stretch", 0, 99), ("find", 3), ("stretch", 70, 71)]
        for deed in deeds:
            weaver.hand_in(deed)
        rows = weaver.finish()
        table = table_of(shelf)
        walk = Walk(shelf, ("stretch", 5, 9))
        while not walk.over():
            walk.step()
        wanted = copy.deepcopy(self.asked(shelf, weaver, walk, rows, deeds, table))
        pages = pages_of(shelf)
        for spoiled in lists_in(self.asked(shelf, weaver, walk, rows, deeds, table)):
            spoiled.append("spoiled")
        self.assertEqual(self.asked(shelf, weaver, walk, rows, deeds, table), wanted)
        self.assertEqual(pages_of(shelf), pages)

    def test_lists_that_were_handed_in_may_change_behind_the_call(self):
        table = [(1, 10), (2, 20), (3, 30)]
        deeds = [("find", 1), ("put", 2, 5)]
        rows = [("found", 0, 0, 0, 10), ("put", 0, 1, 0, 20, None)]
        told = (moments(rows), judged(rows, deeds, table))
        shelf = packed(table, 2)
        wanted = copy.deepcopy(told)
        for handed in (table, deeds, rows):
            handed.clear()
        self.assertEqual(told, wanted)
        self.assertEqual(table_of(shelf), [(1, 10), (2, 20), (3, 30)])


class Promise(unittest.TestCase):
    """Many weavings by several hands, looked at behind each move."""

    def weave(self, seed, room, hands, deeds, table, pick):
        shelf = packed(table, room)
        weaver = Weaver(shelf, hands)
        waiting = list(deeds)
        rows = []
        # The page that each deed has still to tell a fork.
        pending = {}
        while waiting or not weaver.idle():
            if waiting and pick(4) == 0:
                weaver.hand_in(waiting.pop(0))
            row = weaver.move(pick(hands))
            rows.append(row)
            self.note_pending(row, pending)
            self.assertEqual(faults(shelf), [])
            self.assertIs(is_sound(shelf), True)
            beneath = sum(levels(shelf)[1:], [])
            self.assertEqual(sorted(untold(shelf)), sorted(page for page in pending.values() if page in beneath))
            if row[0] in ("found", "put", "cut", "read"):
                self.assertEqual(judged(rows, deeds, table), ("fits", table_of(shelf)))
            self.assertLess(len(rows), 20000)
        self.check_end(shelf, weaver, deeds, rows)
        return rows

    def note_pending(self, row, pending):
        if row[0] in ("put", "told"):
            pending.pop(row[2], None)
            if row[-1] is not None:
                pending[row[2]] = row[-1]
        if row[0] == "raised":
            pending.pop(row[2])

    def check_end(self, shelf, weaver, deeds, rows):
        pages = pages_of(shelf)
        self.assertEqual(untold(shelf), [])
        self.assertEqual(kid_counts(pages), [int(number != shelf.root()) for number in range(len(pages))])
        self.assertEqual(table_of(shelf), sorted(leaf_table(pages).items()))
        self.assertEqual(sorted(number for number, answer in weaver.answers()), list(range(len(deeds))))
        self.assertEqual(weaver.finish(), [])
        told = {number: [row for row in moments(rows) if row[2] == number] for number in range(len(deeds))}
        for number, answer in weaver.answers():
            pairs = [pair for row in told[number] for pair in row[4] or ()] if deeds[number][0] == "stretch" else None
            self.assertEqual(answer, told[number][0][4] if pairs is None else pairs)

    def test_each_room_and_each_number_of_hands(self):
        for room in range(2, 9):
            for hands in range(1, 9):
                seed = room * 10 + hands
                pick = picker(seed)
                table = [(key, pick(9)) for key in range(-15, 15) if pick(2)]
                with self.subTest(room=room, hands=hands):
                    self.weave(seed, room, hands, deeds_of(pick, 25, 40), table, pick)

    def test_many_puts_at_once_on_small_pages(self):
        for seed in range(12):
            pick = picker(900 + seed)
            deeds = [("put", pick(200), number) for number in range(60)] + [("stretch", 0, 200)] * 2
            self.weave(seed, 2, 8, deeds, [], pick)

    def test_great_keys_and_worths(self):
        spots = (-BIG, -BIG + 1, -1, 0, 1, BIG - 1, BIG)
        for seed in range(12):
            pick = picker(1200 + seed)
            deeds = []
            for number in range(20):
                key = spots[pick(7)]
                kinds = (("put", key, spots[pick(7)]), ("find", key), ("cut", key), ("stretch", -BIG, BIG))
                deeds.append(kinds[pick(4)])
            self.weave(seed, 2, 4, deeds, [(-BIG, BIG), (BIG, -BIG)], pick)

    def test_the_same_again(self):
        """Nothing hangs on chance: the same deeds and moves tell the same."""
        runs = []
        for turn in range(2):
            pick = picker(77)
            runs.append(self.weave(77, 3, 5, deeds_of(pick, 40, 50), [(5, 5)], pick))
        self.assertEqual(runs[0], runs[1])

    def test_a_desk_does_what_its_parts_do(self):
        desk = Desk(2, 2)
        shelf = Shelf(2)
        weaver = Weaver(shelf, 2)
        for key in range(20):
            desk.say(f"put {key * 7 % 20} {key}")
            weaver.hand_in(("put", key * 7 % 20, key))
        self.assertEqual(desk.say("finish"), str(len(weaver.finish())))
        self.assertEqual(desk.say("table"), ",".join(f"{key}:{worth}" for key, worth in table_of(shelf)))
        self.assertEqual(desk.say("pack"), str(packed(table_of(shelf), 2).pages()))


if __name__ == "__main__":
    unittest.main()
