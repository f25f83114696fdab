import copy
import unittest

from plain import BIG, deeds_of, picker, shelve
from sidelink.looks import table_of
from sidelink.orders import judged, moments
from sidelink.packs import packed
from sidelink.shelves import Shelf
from sidelink.weavers import Weaver

TABLE = [(10, 1), (20, 2), (30, 3), (40, 4)]
OTHERS = [("take", 0, 0), ("rest", 1), ("side", 0, 0, 3, 4), ("down", 0, 0, 3, 4), ("told", 0, 0, 3, None),
          ("told", 0, 0, 3, 7), ("raised", 0, 0, 3, 8)]


def found(number, worth, hand=0, page=0):
    return ("found", hand, number, page, worth)


def put(number, old, hand=0, page=0, new=None):
    return ("put", hand, number, page, old, new)


def cut(number, old, hand=0, page=0):
    return ("cut", hand, number, page, old)


def read(number, pairs, aim=None, hand=0, page=0):
    return ("read", hand, number, page, tuple(pairs), None if aim is None else page + 1, aim)


def spread(rows):
    """The rows with others between them, which must be passed over."""
    told = list(OTHERS)
    for row in rows:
        told += [row] + OTHERS
    return told


class Moments(unittest.TestCase):
    def test_the_four_words_in_their_order(self):
        rows = [found(0, None), put(1, 3), cut(2, None), read(3, [(1, 2)], 5), read(3, [])]
        for wanted in (rows, rows[::-1], rows[2:] + rows[:2]):
            self.assertEqual(moments(wanted), wanted)
            self.assertEqual(moments(spread(wanted)), wanted)

    def test_others_are_passed_over(self):
        self.assertEqual(moments(OTHERS), [])
        for row in OTHERS:
            self.assertEqual(moments([row]), [])
            self.assertEqual(moments([row, cut(0, 1), row]), [cut(0, 1)])

    def test_the_same_row_twice_is_told_twice(self):
        self.assertEqual(moments([found(0, 1), found(0, 1)]), [found(0, 1)] * 2)

    def test_no_rows(self):
        told = moments([])
        self.assertEqual(told, [])
        self.assertIs(type(told), list)

    def test_the_list_told_is_the_askers_own(self):
        for rows in ([], [found(0, 1), put(1, None)], spread([cut(0, 1)])):
            ahead = copy.deepcopy(rows)
            first, second = moments(rows), moments(rows)
            self.assertIsNot(first, rows)
            self.assertIsNot(first, second)
            wanted = list(second)
            first.append("spoiled")
            self.assertEqual((rows, second), (ahead, wanted))
            second = moments(rows)
            rows.clear()
            self.assertEqual(second, wanted)

    def test_three_thousand_rows(self):
        rows = spread([found(0, number) for number in range(375)])
        self.assertGreater(len(rows), 3000)
        self.assertEqual(moments(rows), [found(0, number) for number in range(375)])

    def test_the_rows_of_a_weaver(self):
        weaver = Weaver(Shelf(2), 2)
        for deed in (("put", 1, 10), ("put", 2, 20), ("put", 3, 30), ("stretch", 0, 9), ("cut", 1), ("find", 1)):
            weaver.hand_in(deed)
        rows = weaver.finish()
        told = moments(rows)
        self.assertEqual(told, [row for row in rows if row[0] in ("found", "put", "cut", "read")])
        self.assertEqual([row[2] for row in told if row[0] != "read"], [0, 1, 2, 4, 5])


class Fits(unittest.TestCase):
    def check(self, rows, deeds, table, behind):
        for told_rows in (rows, spread(rows)):
            handed = (told_rows, deeds, table)
            ahead = copy.deepcopy(handed)
            told = judged(*handed)
            self.assertEqual(told, ("fits", behind))
            self.assertEqual(handed, ahead)
            self.assertIs(type(told), tuple)
            self.assertIs(type(told[1]), list)
            self.assertEqual([type(pair) for pair in told[1]], [tuple] * len(behind))
            self.assertIsNot(told[1], table)

    def test_no_rows(self):
        self.check([], [], [], [])
        self.check([], [], TABLE, TABLE)
        self.check([], [("find", 1), ("put", 10, 5), ("cut", 20)], TABLE, TABLE)

    def test_finds(self):
        deeds = [("find", 10), ("find", 11), ("find", 40), ("find", 9), ("find", 41)]
        rows = [found(0, 1), found(1, None), found(2, 4), found(3, None), found(4, None)]
        self.check(rows, deeds, TABLE, TABLE)
        self.check(rows[::-1], deeds, TABLE, TABLE)
        self.check([found(0, None)], [("find", 0)], [], [])

    def test_puts(self):
        self.check([put(0, 2)], [("put", 20, 7)], TABLE, [(10, 1), (20, 7), (30, 3), (40, 4)])
        self.check([put(0, None)], [("put", 25, 7)], TABLE, [(10, 1), (20, 2), (25, 7), (30, 3), (40, 4)])
        self.check([put(0, None)], [("put", 5, 7)], TABLE, [(5, 7)] + TABLE)
        self.check([put(0, None)], [("put", 50, 7)], TABLE, TABLE + [(50, 7)])
        self.check([put(0, None)], [("put", 5, 7)], [], [(5, 7)])
        self.check([put(0, 2)], [("put", 20, 2)], TABLE, TABLE)

    def test_cuts(self):
        self.check([cut(0, 2)], [("cut", 20)], TABLE, [(10, 1), (30, 3), (40, 4)])
        self.check([cut(0, None)], [("cut", 21)], TABLE, TABLE)
        self.check([cut(0, None)], [("cut", 21)], [], [])
        self.check([cut(0, 5)], [("cut", 21)], [(21, 5)], [])

    def test_each_moment_sees_what_those_ahead_did(self):
        deeds = [("put", 10, 7), ("put", 10, 8), ("cut", 10), ("find", 10), ("cut", 10), ("put", 10, 9), ("find", 10)]
        rows = [put(0, 1), put(1, 7), cut(2, 8), found(3, None), cut(4, None), put(5, None), found(6, 9)]
        self.check(rows, deeds, TABLE, [(10, 9), (20, 2), (30, 3), (40, 4)])
        # The order is that of the rows, not that of the deeds' numbers.
        rows = [found(6, 1), put(5, 1), cut(4, 9), found(3, None), cut(2, None), put(1, None), put(0, 8)]
        self.check(rows, deeds, TABLE, [(10, 7), (20, 2), (30, 3), (40, 4)])

    def test_noughts_are_keys_and_worths(self):
        deeds = [("put", 0, 0), ("find", 0), ("stretch", 0, 1), ("cut", 0), ("find", 0), ("stretch", -1, 0)]
        rows = [put(0, None), found(1, 0), read(2, [(0, 0)]), cut(3, 0), found(4, None), read(5, [])]
        self.check(rows, deeds, [], [])
        self.check(rows[:3], deeds, [], [(0, 0)])
        # An aim of 0 is an aim.
        self.check([read(0, [(-1, 5)], 0), read(0, [(0, 6)])], [("stretch", -1, 1)], [(-1, 5), (0, 6)],
                   [(-1, 5), (0, 6)])

    def test_stretches_of_one_read(self):
        for low, high, pairs in ((10, 41, TABLE), (10, 40, TABLE[:3]), (11, 40, TABLE[1:3]), (11, 20, []),
                                 (20, 21, TABLE[1:2]), (-5, 10, []), (41, 99, []), (-BIG, BIG, TABLE)):
            with self.subTest(low=low, high=high):
                self.check([read(0, pairs)], [("stretch", low, high)], TABLE, TABLE)
        self.check([read(0, [])], [("stretch", 1, 2)], [], [])

    def test_stretches_of_several_reads(self):
        deeds = [("stretch", 10, 41)]
        self.check([read(0, TABLE[:1], 20), read(0, TABLE[1:3], 35), read(0, TABLE[3:])], deeds, TABLE, TABLE)
        self.check([read(0, [TABLE[0]], 11), read(0, [], 12), read(0, TABLE[1:])], deeds, TABLE, TABLE)
        self.check([read(0, TABLE[:3], 40), read(0, TABLE[3:])], deeds, TABLE, TABLE)

    def test_a_stretch_that_has_not_come_to_its_end(self):
        self.check([read(0, TABLE[:2], 25)], [("stretch", 0, 99)], TABLE, TABLE)

    def test_other_moments_between_the_reads(self):
        deeds = [("stretch", 0, 99), ("put", 5, 7), ("put", 35, 8), ("cut", 30), ("cut", 10), ("stretch", 15, 99)]
        rows = [read(0, [(10, 1), (20, 2)], 25), put(1, None), put(2, None), read(5, [(20, 2)], 30), cut(3, 3),
                read(0, [(35, 8)], 40), cut(4, 1), read(5, [(35, 8), (40, 4)]), read(0, [(40, 4)])]
        self.check(rows, deeds, TABLE, [(5, 7), (20, 2), (35, 8), (40, 4)])

    def test_like_deeds_have_a_moment_each(self):
        deeds = [("put", 5, 7), ("put", 5, 7), ("find", 5), ("find", 5), ("stretch", 5, 6), ("stretch", 5, 6)]
        rows = [put(1, None), put(0, 7), found(3, 7), found(2, 7), read(5, [(5, 7)]), read(4, [(5, 7)])]
        self.check(rows, deeds, [], [(5, 7)])

    def test_pages_and_hands_are_not_looked_at(self):
        for page in (-1, 0, 5, BIG, -BIG, 10 ** 5000):
            deeds = [("find", 10), ("put", 10, 1), ("cut", 99), ("stretch", 0, 99)]
            rows = [("found", 7, 0, page, 1), ("put", 7, 1, page, 1, page), ("cut", 7, 2, page, None),
                    ("read", 7, 3, page, tuple(TABLE[:2]), page, 25),
                    ("read", 7, 3, page, tuple(TABLE[2:]), None, None)]
            self.check(rows, deeds, TABLE, TABLE)

    def test_great_keys_and_worths(self):
        table = [(-BIG, BIG), (0, -BIG), (BIG, 0)]
        deeds = [("find", BIG), ("cut", -BIG), ("put", -BIG, -BIG), ("stretch", -BIG, BIG), ("put", BIG - 1, BIG)]
        rows = [found(0, 0), cut(1, BIG), put(2, None), read(3, [(-BIG, -BIG)], 0), put(4, None),
                read(3, [(0, -BIG)], BIG - 1), read(3, [(BIG - 1, BIG)])]
        self.check(rows, deeds, table, [(-BIG, -BIG), (0, -BIG), (BIG - 1, BIG), (BIG, 0)])

    def test_the_table_told_is_the_askers_own(self):
        table = list(TABLE)
        first, second = judged([], [], table), judged([], [], table)
        self.assertIsNot(first[1], second[1])
        first[1].clear()
        self.assertEqual((second, table), (("fits", TABLE), TABLE))
        table.clear()
        self.assertEqual(second, ("fits", TABLE))


class Unfit(unittest.TestCase):
    """Each moment that doesn't fit, alone and behind others that do."""

    def check(self, rows, deeds, table=TABLE, number=None):
        """The last row doesn't fit, the ones ahead of it do."""
        number = len(rows) - 1 if number is None else number
        handed = (rows, deeds, table)
        ahead = copy.deepcopy(handed)
        told = judged(*handed)
        self.assertEqual(told, ("unfit", number))
        self.assertIs(type(told), tuple)
        self.assertIs(type(told[1]), int)
        self.assertEqual(handed, ahead)
        self.assertEqual(judged(spread(rows), deeds, table), ("unfit", number))
        # A deed of its own number, behind all others, fits wherever it stands and is a moment too.
        more = deeds + [("find", -77)] * 3
        fitting = [found(len(deeds) + turn, None) for turn in range(3)]
        self.assertEqual(judged(fitting + rows, more, table)[0], "unfit")
        if len(rows) and all(0 <= row[2] < len(deeds) for row in rows):
            self.assertEqual(judged(fitting + rows, more, table), ("unfit", number + 3))
            self.assertEqual(judged(rows + fitting, more, table), ("unfit", number))

    def test_a_find_that_tells_another_worth(self):
        for worth in (None, 0, 2, -1, BIG):
            self.check([found(0, worth)], [("find", 10)])
        for worth in (0, 1, 2):
            self.check([found(0, worth)], [("find", 11)])
            self.check([found(0, worth)], [("find", 11)], [])
        self.check([found(0, None)], [("find", 10)], [(10, 0)])
        self.check([found(0, 0)], [("find", 10)], [])

    def test_a_put_that_tells_another_old_worth(self):
        for worth in (None, 0, 2, 7, BIG):
            self.check([put(0, worth)], [("put", 10, 7)])
        for worth in (0, 1, 7):
            self.check([put(0, worth)], [("put", 11, 7)])
        self.check([put(0, None)], [("put", 10, 0)], [(10, 0)])

    def test_a_cut_that_tells_another_old_worth(self):
        for worth in (None, 0, 2, BIG):
            self.check([cut(0, worth)], [("cut", 10)])
        for worth in (0, 1):
            self.check([cut(0, worth)], [("cut", 11)])
        self.check([cut(0, None)], [("cut", 10)], [(10, 0)])
        self.check([cut(0, 0)], [("cut", 10)], [])

    def test_a_moment_that_leaves_out_what_one_ahead_did(self):
        self.check([put(0, 1), found(1, 1)], [("put", 10, 7), ("find", 10)])
        self.check([cut(0, 1), found(1, 1)], [("cut", 10), ("find", 10)])
        self.check([cut(0, 1), cut(1, 1)], [("cut", 10), ("cut", 10)])
        self.check([put(0, None), read(1, TABLE)], [("put", 15, 7), ("stretch", 0, 99)])
        self.check([cut(0, 1), read(1, TABLE)], [("cut", 10), ("stretch", 0, 99)])
        # A find changes nothing, and a put that comes behind a find is not seen by it.
        self.check([found(1, 7), put(0, 1)], [("put", 10, 7), ("find", 10)], number=0)

    def test_a_read_with_other_pairs(self):
        deed = ("stretch", 10, 40)
        self.assertEqual(judged([read(0, TABLE[:3])], [deed], TABLE), ("fits", TABLE))
        for pairs in ([], TABLE[:2], TABLE[1:3], TABLE[:1] + TABLE[2:3], TABLE, [(9, 1)] + TABLE[:3],
                      TABLE[:3] + [(39, 1)], TABLE[:2] + [(25, 5)] + TABLE[2:3], TABLE[:3] + TABLE[2:3],
                      [(10, 1), (20, 0), (30, 3)], [(10, 1), (21, 2), (30, 3)], [(10, 1), (30, 3), (20, 2)],
                      TABLE[:3][::-1], [(1, 10), (2, 20), (3, 30)]):
            with self.subTest(pairs=pairs):
                self.check([read(0, pairs)], [deed])
        self.check([read(0, [(1, 1)])], [("stretch", 0, 9)])
        self.check([read(0, [(9, 1)])], [("stretch", 0, 9)], [(9, 1)])

    def test_a_read_with_pairs_from_its_aim_on(self):
        self.check([read(0, TABLE[:2], 20)], [("stretch", 10, 40)])
        self.check([read(0, TABLE[:3], 20)], [("stretch", 10, 40)])
        self.check([read(0, [], 20)], [("stretch", 10, 40)])

    def test_a_later_read_that_begins_elsewhere(self):
        deeds = [("stretch", 10, 41)]
        for pairs in (TABLE, TABLE[1:], TABLE[3:], []):
            self.check([read(0, TABLE[:2], 25), read(0, pairs)], deeds)
        self.check([read(0, TABLE[:1], 20), read(0, TABLE[2:])], deeds)
        # Each stretch goes on from its own aim.
        two = [("stretch", 10, 41), ("stretch", 10, 41)]
        self.check([read(0, TABLE[:2], 25), read(1, TABLE[2:])], two)
        self.check([read(0, TABLE[:2], 25), read(1, TABLE[:1], 15), read(0, TABLE[1:])], two)
        self.check([read(0, TABLE[:1], 15), read(0, TABLE[1:2], 25), read(0, TABLE[1:])], deeds)

    def test_a_number_that_is_no_deeds(self):
        for deeds in ([], [("find", 10)], [("find", 10)] * 3):
            count = len(deeds)
            for number in (-1, -2, -count, -count - 1, count, count + 1, BIG, -BIG, 10 ** 5000):
                if not 0 <= number < count:
                    self.check([found(number, 1)], deeds)
        for number in (-1, 1):
            self.check([put(number, 1)], [("put", 10, 7)])
            self.check([cut(number, 1)], [("cut", 10)])
            self.check([read(number, TABLE)], [("stretch", 0, 99)])

    def test_a_word_that_is_not_its_deeds(self):
        deeds = {"found": ("find", 10), "put": ("put", 10, 1), "cut": ("cut", 10), "read": ("stretch", 10, 11)}
        rows = {"found": found(0, 1), "put": put(0, 1), "cut": cut(0, 1), "read": read(0, [(10, 1)])}
        for word, row in rows.items():
            for own, deed in deeds.items():
                with self.subTest(word=word, deed=deed):
                    if word == own:
                        self.assertEqual(judged([row], [deed], TABLE)[0], "fits")
                    else:
                        self.check([row], [deed])
        # Also where nothing is there and nothing is told.
        empty = {"found": found(0, None), "put": put(0, None), "cut": cut(0, None), "read": read(0, [])}
        for word, row in empty.items():
            for own, deed in deeds.items():
                if word != own:
                    self.check([row], [deed], [])

    def test_a_moment_behind_its_deeds_last_one(self):
        self.check([found(0, 1), found(0, 1)], [("find", 10)])
        self.check([put(0, 1), put(0, 1)], [("put", 10, 1)])
        self.check([put(0, 1), put(0, 7)], [("put", 10, 7)])
        self.check([cut(0, 1), cut(0, None)], [("cut", 10)])
        self.check([cut(0, None), cut(0, None)], [("cut", 11)])
        self.check([read(0, TABLE), read(0, TABLE)], [("stretch", 0, 99)])
        self.check([read(0, TABLE), read(0, [])], [("stretch", 0, 99)])
        self.check([read(0, TABLE[:2], 25), read(0, TABLE[2:]), read(0, TABLE[2:])], [("stretch", 0, 99)])
        self.check([read(0, TABLE), read(0, TABLE[:2], 25)], [("stretch", 0, 99)])
        self.check([read(0, []), read(0, [])], [("stretch", 0, 9)])
        self.check([read(0, [], 5), read(0, []), read(0, [], 7)], [("stretch", 0, 9)])

    def test_a_last_moment_counts_with_others_between(self):
        deeds = [("find", 10), ("find", 20), ("find", 30)]
        self.check([found(0, 1), found(1, 2), found(2, 3), found(0, 1)], deeds)
        self.check([found(2, 3), found(1, 2), found(1, 2)], deeds)

    def test_an_aim_that_is_not_above_where_it_begins(self):
        deeds = [("stretch", 11, 19)]
        for aim in (11, 10, 0, -1, -BIG, -10 ** 40):
            self.check([read(0, [], aim)], deeds)
        for aim in (15, 14, 11, 0, -BIG):
            self.check([read(0, [], 15), read(0, [], aim)], deeds)
        self.assertEqual(judged([read(0, [], 12), read(0, [], 13)], deeds, TABLE), ("fits", TABLE))
        self.check([read(0, [], 0)], [("stretch", 0, 9)])

    def test_an_aim_that_is_not_below_high(self):
        deeds = [("stretch", 11, 19)]
        for aim in (19, 20, 100, BIG, 10 ** 40):
            self.check([read(0, [], aim)], deeds, [])
            self.check([read(0, [], 15), read(0, [], aim)], deeds, [])
        self.assertEqual(judged([read(0, [], 18), read(0, [])], deeds, TABLE), ("fits", TABLE))
        # With all pairs up to the aim, and with those up to high.
        self.check([read(0, TABLE[:2], 25)], [("stretch", 0, 25)])
        self.check([read(0, TABLE[:2], 35)], [("stretch", 0, 25)])
        self.check([read(0, TABLE[:3], 35)], [("stretch", 0, 25)])

    def test_the_first_of_several_is_told(self):
        deeds = [("find", 10), ("find", 20), ("find", 30), ("find", 40)]
        for wrong in range(1, 16):
            rows = [found(number, 9 if wrong >> number & 1 else number + 1) for number in range(4)]
            first = min(number for number in range(4) if wrong >> number & 1)
            self.assertEqual(judged(rows, deeds, TABLE), ("unfit", first))
            self.assertEqual(judged(spread(rows), deeds, TABLE), ("unfit", first))

    def test_the_aim_decides_not_the_page(self):
        deeds = [("stretch", 0, 99)]
        ended = ("read", 0, 0, 5, tuple(TABLE), 6, None)
        self.assertEqual(judged([ended], deeds, TABLE), ("fits", TABLE))
        self.check([ended, ("read", 0, 0, 6, (), None, None)], deeds)
        going = ("read", 0, 0, 5, tuple(TABLE[:2]), None, 25)
        self.assertEqual(judged([going, read(0, TABLE[2:])], deeds, TABLE), ("fits", TABLE))


def plain_judged(rows, deeds, table):
    """Told a second time: for each moment all that came ahead of it is gone through anew."""
    told = [row for row in rows if row[0] not in ("take", "rest", "side", "down", "told", "raised")]
    words = {"find": "found", "put": "put", "cut": "cut", "stretch": "read"}
    worths = dict(table)
    for place, row in enumerate(told):
        number = row[2]
        mine = [other for other in told[:place] if other[2] == number]
        if number not in range(len(deeds)) or words[deeds[number][0]] != row[0]:
            return ("unfit", place)
        if mine and (row[0] != "read" or mine[-1][-1] is None):
            return ("unfit", place)
        deed = deeds[number]
        if row[0] != "read":
            if (row[4] is None) == (deed[1] in worths) or row[4] not in (None, worths.get(deed[1])):
                return ("unfit", place)
            if row[0] != "found":
                worths.pop(deed[1], None)
            if row[0] == "put":
                worths[deed[1]] = deed[2]
            continue
        begin = mine[-1][-1] if mine else deed[1]
        if row[-1] is not None and not (row[-1] > begin and row[-1] < deed[2]):
            return ("unfit", place)
        stop = deed[2] if row[-1] is None else row[-1]
        if row[4] != tuple((key, worths[key]) for key in sorted(worths) if key >= begin and key < stop):
            return ("unfit", place)
    return ("fits", [(key, worths[key]) for key in sorted(worths)])


def spoiled(pick, rows, deeds):
    """The rows with one of them changed, left out, doubled or swapped, by chance."""
    rows = list(rows)
    at = pick(len(rows))
    row = list(rows[at])
    way = pick(6)
    if way == 0:
        rows.pop(at)
    elif way == 1:
        rows.insert(pick(len(rows)), rows[at])
    elif way == 2:
        other = pick(len(rows))
        rows[at], rows[other] = rows[other], rows[at]
    elif len(row) > 4:
        if way == 3:
            row[2] = pick(len(deeds) + 2) - 1
        elif row[0] == "read" and way == 4 and row[6] is not None:
            row[6] += pick(7) - 3
        elif row[0] == "read":
            row[4] = row[4][1:] if pick(2) else row[4] + ((99, 1),)
        else:
            row[4] = (None, 0, 1, 2)[pick(4)]
        rows[at] = tuple(row)
    return rows


class Weavings(unittest.TestCase):
    """Weavers of several hands, moved by chance, on shelves that have a table ahead."""

    def weave(self, seed):
        pick = picker(31000 + seed)
        room = 2 + seed % 7
        hands = 1 + seed // 7 % 8
        table = [(key, pick(50)) for key in range(-20, 20) if pick(3) == 0]
        shelf = packed(table, room)
        weaver = Weaver(shelf, hands)
        deeds = deeds_of(pick, 10 + pick(25), 40)
        rows = []
        waiting = list(deeds)
        while waiting or not weaver.idle():
            if waiting and pick(3) == 0:
                weaver.hand_in(waiting.pop(0))
            rows.append(weaver.move(pick(hands)))
            yield rows, deeds, table, shelf, weaver, pick

    def test_the_rows_of_each_weaving_fit(self):
        for seed in range(112):
            with self.subTest(seed=seed):
                for turn, (rows, deeds, table, shelf, weaver, pick) in enumerate(self.weave(seed)):
                    if turn % 7 == 0:
                        self.assertEqual(judged(rows, deeds, table), ("fits", table_of(shelf)))
                self.assertEqual(judged(rows, deeds, table), ("fits", table_of(shelf)))
                self.check_answers(rows, deeds, weaver)

    def check_answers(self, rows, deeds, weaver):
        """Each answer is by its moments: one of found, put or cut, or one or more reads."""
        told = moments(rows)
        answers = dict(weaver.answers())
        self.assertEqual(sorted(answers), list(range(len(deeds))))
        for number, deed in enumerate(deeds):
            mine = [row for row in told if row[2] == number]
            if deed[0] == "stretch":
                self.assertGreaterEqual(len(mine), 1)
                self.assertEqual(answers[number], [pair for row in mine for pair in row[4]])
                self.assertEqual([row[6] is None for row in mine], [False] * (len(mine) - 1) + [True])
            else:
                self.assertEqual([row[4] for row in mine], [answers[number]])

    def test_rows_that_were_spoiled(self):
        told = {"fits": 0, "unfit": 0}
        for seed in range(112):
            for rows, deeds, table, shelf, weaver, pick in self.weave(seed):
                pass
            for turn in range(12):
                wrong = spoiled(pick, rows, deeds)
                wanted = plain_judged(wrong, deeds, table)
                self.assertEqual(judged(wrong, deeds, table), wanted)
                told[wanted[0]] += 1
        self.assertGreater(min(told.values()), 200)

    def test_a_table_of_another_time_does_not_fit(self):
        deeds = [("find", 10), ("put", 10, 5)]
        weaver = Weaver(shelve(Shelf(2), [(0, (10,), (1,), None, None)], 0), 1)
        for deed in deeds:
            weaver.hand_in(deed)
        rows = weaver.finish()
        self.assertEqual(judged(rows, deeds, [(10, 1)]), ("fits", [(10, 5)]))
        self.assertEqual(judged(rows, deeds, []), ("unfit", 0))
        self.assertEqual(judged(rows, deeds, [(10, 5)]), ("unfit", 0))

    def test_three_hundred_deeds_and_three_thousand_rows(self):
        pick = picker(5)
        weaver = Weaver(Shelf(2), 8)
        deeds = deeds_of(pick, 300, 60)
        for deed in deeds:
            weaver.hand_in(deed)
        rows = weaver.finish()
        self.assertGreater(len(rows), 2000)
        self.assertEqual(judged(rows, deeds, [])[0], "fits")


if __name__ == "__main__":
    unittest.main()
