import unittest

from plain import BIG, pages_of, picker, plain_packed, run_walk
from sidelink.desk import Desk
from sidelink.errors import Busy, NoDeed, NoHand, NoPage, NoRow, SideError
from sidelink.looks import table_of
from sidelink.packs import packed
from sidelink.shelves import Shelf
from sidelink.walks import Walk
from sidelink.weavers import Weaver


def said(desk, *rows):
    return [desk.say(row) for row in rows]


def filled(room, hands, count):
    """A desk with the keys 10, 20 and so on, each with the worth of its tenth."""
    desk = Desk(room, hands)
    for number in range(1, count + 1):
        desk.say(f"put {number * 10} {number}")
    desk.say("finish")
    return desk


class Script(unittest.TestCase):
    """Rows and their answers, one behind the other."""

    def run_script(self, desk, script):
        for number, line in enumerate(script.strip().split("\n")):
            row, wanted = line.strip().split(" -> ")
            answer = desk.say(row)
            self.assertEqual(answer, wanted, f"row {number}: {row}")
            self.assertIs(type(answer), str)

    def test_deeds_are_answered_by_their_numbers(self):
        self.run_script(Desk(2, 1), """
            find 1 -> 0
            put 1 2 -> 1
            cut 1 -> 2
            stretch 1 2 -> 3
            find 1 -> 4
            finish -> 10
            find 1 -> 5
            put -5 -6 -> 6
            stretch -9 -8 -> 7
        """)

    def test_numbers_of_deeds_beyond_three_figures(self):
        desk = Desk(8, 8)
        self.assertEqual([desk.say("find 1") for number in range(1200)], [str(number) for number in range(1200)])
        self.assertEqual(desk.say("answer 999"), "-")

    def test_each_word_of_a_move(self):
        self.run_script(filled(2, 4, 2), """
            move 3 -> rest 3
            put 30 3 -> 2
            find 30 -> 3
            stretch 0 25 -> 4
            cut 20 -> 5
            move 3 -> take 3 2
            move 2 -> take 2 3
            move 1 -> take 1 4
            move 0 -> take 0 5
            move 3 -> put 3 2 0 - 1
            move 2 -> side 2 3 0 1
            move 1 -> read 1 4 0 10:1 1 20
            move 3 -> raised 3 2 0 2
            move 0 -> down 0 5 2 1
            move 0 -> cut 0 5 1 2
            move 1 -> read 1 4 1 - - -
            move 2 -> found 2 3 1 3
            move 2 -> rest 2
            put 40 -4 -> 6
            put 50 0 -> 7
            move 3 -> take 3 6
            move 3 -> down 3 6 2 1
            move 3 -> put 3 6 1 - -
            move 3 -> take 3 7
            move 3 -> down 3 7 2 1
            move 3 -> put 3 7 1 - 3
            move 3 -> told 3 7 2 -
            put 40 0 -> 8
            find 41 -> 9
            cut 41 -> 10
            stretch 0 99 -> 11
            move 0 -> take 0 8
            move 1 -> take 1 9
            move 2 -> take 2 10
            move 3 -> take 3 11
            move 0 -> down 0 8 2 3
            move 1 -> down 1 9 2 3
            move 2 -> down 2 10 2 3
            move 3 -> down 3 11 2 0
            move 0 -> put 0 8 3 -4 -
            move 1 -> found 1 9 3 -
            move 2 -> cut 2 10 3 -
            move 3 -> read 3 11 0 10:1 1 20
            move 3 -> read 3 11 1 30:3 3 40
            move 3 -> read 3 11 3 40:0,50:0 - -
            table -> 10:1,30:3,40:0,50:0
        """)

    def test_a_told_fork_that_was_parted(self):
        self.run_script(filled(2, 1, 4), """
            put 50 5 -> 4
            move 0 -> take 0 4
            move 0 -> down 0 4 2 3
            move 0 -> put 0 4 3 - 4
            move 0 -> told 0 4 2 5
            answer 4 -> -
            move 0 -> raised 0 4 2 6
            move 0 -> rest 0
        """)

    def test_pairs_below_nought(self):
        self.run_script(Desk(3, 1), """
            put -1 -2 -> 0
            put 0 0 -> 1
            put -3 4 -> 2
            finish -> 6
            table -> -3:4,-1:-2,0:0
            stretch -3 0 -> 3
            move 0 -> take 0 3
            move 0 -> read 0 3 0 -3:4,-1:-2 - -
            answer 3 -> -3:4,-1:-2
        """)

    def test_finish_tells_how_many_moves(self):
        self.run_script(Desk(2, 3), """
            finish -> 0
            put 1 1 -> 0
            finish -> 4
            finish -> 0
            put 2 2 -> 1
            find 1 -> 2
            find 2 -> 3
            move 1 -> take 1 1
            finish -> 6
            answer 1 -> -
            answer 2 -> 1
            answer 3 -> 2
        """)

    def test_answers(self):
        self.run_script(filled(2, 2, 3), """
            answer 0 -> -
            answer 2 -> -
            find 20 -> 3
            find 25 -> 4
            put 20 7 -> 5
            put 25 8 -> 6
            cut 20 -> 7
            cut 20 -> 8
            stretch 0 99 -> 9
            stretch 26 30 -> 10
            put 9 0 -> 11
            find 9 -> 12
            answer 3 -> -
            answer 12 -> -
            move 0 -> take 0 3
            answer 3 -> -
            move 0 -> down 0 3 2 1
            answer 3 -> -
            move 0 -> found 0 3 1 2
            answer 3 -> 2
            answer 4 -> -
            move 0 -> take 0 4
            move 0 -> down 0 4 2 1
            move 0 -> found 0 4 1 -
            answer 4 -> -
            move 0 -> take 0 5
            move 0 -> down 0 5 2 1
            move 0 -> put 0 5 1 2 -
            answer 5 -> 2
            move 0 -> take 0 6
            move 0 -> down 0 6 2 1
            move 0 -> put 0 6 1 - 3
            answer 6 -> -
            move 0 -> told 0 6 2 -
            answer 6 -> -
            move 0 -> take 0 7
            move 0 -> down 0 7 2 1
            move 0 -> cut 0 7 1 7
            answer 7 -> 7
            move 0 -> take 0 8
            move 0 -> down 0 8 2 1
            move 0 -> cut 0 8 1 -
            answer 8 -> -
            move 0 -> take 0 9
            move 0 -> down 0 9 2 0
            move 0 -> read 0 9 0 10:1 1 20
            answer 9 -> -
            move 0 -> read 0 9 1 - 3 25
            answer 9 -> -
            move 0 -> read 0 9 3 25:8,30:3 - -
            answer 9 -> 10:1,25:8,30:3
            finish -> 11
            answer 10 -> -
            answer 12 -> 0
            answer 3 -> 2
        """)

    def test_an_old_worth_is_an_answer_only_when_the_walk_is_over(self):
        # A parted leaf is the end of no walk; the same key again keeps the number of keys.
        self.run_script(filled(2, 1, 2), """
            put 20 5 -> 2
            move 0 -> take 0 2
            answer 2 -> -
            move 0 -> put 0 2 0 2 -
            answer 2 -> 2
        """)

    def test_table_and_sound(self):
        self.run_script(Desk(2, 2), """
            table -> -
            sound -> yes
            put 2 20 -> 0
            table -> -
            move 0 -> take 0 0
            table -> -
            move 0 -> put 0 0 0 - -
            table -> 2:20
            sound -> yes
            put 1 10 -> 1
            put 3 30 -> 2
            finish -> 6
            table -> 1:10,2:20,3:30
            sound -> yes
            cut 1 -> 3
            cut 2 -> 4
            cut 3 -> 5
            finish -> 11
            table -> -
            sound -> yes
        """)

    def test_pack(self):
        self.run_script(Desk(2, 2), """
            pack -> 1
            table -> -
            put 1 10 -> 0
            finish -> 3
            pack -> 1
            table -> 1:10
            answer 0 -> -
            put 1 11 -> 1
            put 2 20 -> 2
            finish -> 4
            pack -> 1
            put 3 30 -> 3
            finish -> 5
            answer 1 -> 10
            pack -> 3
            pack -> 3
            stretch 0 9 -> 4
            move 1 -> take 1 4
            move 1 -> down 1 4 2 0
            move 1 -> read 1 4 0 1:11,2:20 1 3
            move 1 -> read 1 4 1 3:30 - -
            pack -> 3
            answer 4 -> 1:11,2:20,3:30
            answer 1 -> 10
            answer 0 -> -
            sound -> yes
            table -> 1:11,2:20,3:30
            cut 2 -> 5
            move 0 -> take 0 5
            move 0 -> down 0 5 2 0
            move 0 -> cut 0 5 0 20
            answer 5 -> 20
            pack -> 1
            table -> 1:11,3:30
            find 3 -> 6
            move 0 -> take 0 6
            move 0 -> found 0 6 0 30
            answer 6 -> 30
            answer 5 -> 20
            answer 4 -> 1:11,2:20,3:30
        """)

    def test_a_pack_makes_the_shelf_tight_again(self):
        desk = filled(2, 3, 30)
        self.assertEqual(desk.say("pack"), str(len(plain_packed([(number, 0) for number in range(30)], 2))))
        desk.say("find 300")
        # 15 leaves, 5 forks, 2 forks, 1 root: four steps and the take, each with two rests.
        self.assertEqual(desk.say("finish"), "13")
        self.assertEqual(desk.say("answer 30"), "30")

    def test_great_keys_and_worths(self):
        desk = Desk(2, 2)
        low, high = str(-BIG), str(BIG)
        self.assertEqual(said(desk, f"put {high} {low}", f"put {low} {high}", f"find {high}", f"cut {low}",
                              f"stretch {low} {high}"), ["0", "1", "2", "3", "4"])
        self.assertEqual(desk.say("finish"), "11")
        self.assertEqual(said(desk, "answer 2", "answer 3", "answer 4"), [low, high, "-"])
        self.assertEqual(desk.say("table"), f"{high}:{low}")
        self.assertEqual(said(desk, f"put {BIG - 1} {high}", f"stretch {-BIG + 1} {high}", f"put {low} 0"),
                         ["5", "6", "7"])
        desk.say("finish")
        self.assertEqual(desk.say("answer 6"), f"{BIG - 1}:{high}")
        self.assertEqual(desk.say("table"), f"{low}:0,{BIG - 1}:{high},{high}:{low}")
        self.assertEqual(desk.say("pack"), "3")
        self.assertEqual(desk.say("table"), f"{low}:0,{BIG - 1}:{high},{high}:{low}")

    def test_a_stretch_goes_by_keys_of_any_greatness(self):
        desk = filled(8, 1, 5)
        for number, (low, high, wanted) in enumerate(((-20, -10, "-"), (-1, 1000, "10:1,20:2,30:3,40:4,50:5"),
                                                      (1000, 100000, "-"), (0, 12345, "10:1,20:2,30:3,40:4,50:5"),
                                                      (50, 51, "50:5"), (10, 50, "10:1,20:2,30:3,40:4")), start=5):
            self.assertEqual(desk.say(f"stretch {low} {high}"), str(number))
            desk.say("finish")
            self.assertEqual(desk.say(f"answer {number}"), wanted)

    def test_rooms_and_hands(self):
        for room in range(2, 9):
            for hands in range(1, 9):
                desk = Desk(room, hands)
                for key in range(room + 1):
                    desk.say(f"put {key} {key}")
                self.assertEqual([desk.say(f"move {hand}")[:5] for hand in range(hands)],
                                 ["take "] * min(hands, room + 1) + ["rest "] * (hands - room - 1))
                desk.say("finish")
                self.assertEqual(desk.say("table"), ",".join(f"{key}:{key}" for key in range(room + 1)))
                self.assertEqual(desk.say("pack"), "3")
                with self.assertRaises(NoHand):
                    desk.say(f"move {hands}")

    def test_a_shelf_that_is_not_sound(self):
        # No row leads there, so the page is written past the desk.
        desk = filled(2, 1, 3)
        desk.shelf.write(0, (0, (5, 4), (1, 1), 20, 1))
        self.assertEqual(desk.say("sound"), "no")

    def test_two_desks_dont_touch_one_another(self):
        one, other = Desk(2, 1), Desk(2, 1)
        one.say("put 1 1")
        one.say("finish")
        self.assertEqual(said(other, "table", "finish", "find 1", "move 0"), ["-", "0", "0", "take 0 0"])
        self.assertEqual(one.say("table"), "1:1")


NUMBERS_THAT_ARE_NONE = (
    "", "-", "+", "+1", "+0", "-0", "00", "01", "007", "-01", "-00", "1-", "1+", "--1", "-+1", "+-1", "1.0", "1.", ".1",
    "1e3", "1_0", "0x1", "0b1", "0o7", "a", "1a", "a1", "-a", "K", "None", "True", "1,", "1:1", "1,2", "!", "~", "'1'",
    "\"1\"", "(1)", "1/1", "1;", "0-", "0-0", "--0", "- 1", "1\t", "\t1", "\n1", "1\n", "1\r", "\x0b1", "1\x00",
    "\u0661", "\u00b2", "1\u0662", "\uff11", "\u22121", "\u20131", "1\u00a0",
)
TOO_GREAT = (str(BIG + 1), str(-BIG - 1), "1" + "0" * 31, "-1" + "0" * 31, "9" * 31, "-" + "9" * 31, "9" * 32,
             "9" * 950, "-" + "9" * 950, "1" * 5000)
# Of these some are numbers, but none is one of a hand or a deed.
NO_SHORT_ONES = ("-1", "-2", "-999", "1000", "1001", "9999", "10000", "0000", "0001", str(BIG), str(-BIG))
BARE = ("finish", "table", "sound", "pack")


def rows_that_are_none():
    yield from ("", " ", "  ", "   ", "\n", "\t", "-", "0", "1", "1 2", "- -", "~", "!", " " * 1000, "find" * 250)
    yield from ("find", "put", "cut", "stretch", "move", "answer")
    yield from ("find ", "put ", "cut ", "stretch ", "move ", "answer ", "put 1", "stretch 1", "put 1 ", "stretch 1 ")
    yield from ("find 1 2", "put 1 2 3", "cut 1 2", "stretch 1 2 3", "move 0 0", "answer 0 0", "find 1 2 3 4")
    for word in BARE:
        yield from (word + " ", " " + word, word + " 0", word + " 1", word + " -", word + "  ", word * 2, word[:-1],
                    word + "s", word + "\n", "\n" + word, word + "\t", word + " " + word)
    for row in ("find 1", "put 1 2", "cut 1", "stretch 1 2", "move 0", "answer 0") + BARE:
        yield from (" " + row, row + " ", "  " + row, row + "  ", row.upper(), row.capitalize(), row + "\n",
                    "\n" + row, row + ".", row + ";", "\t" + row, row + "\t", row[1:], row + " 5 5 5")
        if " " in row:
            for sign in ("  ", "\t", "", ",", "\n", " \t", "\u00a0", " +", " 0 "):
                yield row.replace(" ", sign)
    yield from ("look 1", "get 1", "read 1", "found 1", "take 0", "rest 0", "side 0 1", "told 0", "raised 0", "levels",
                "faults", "idle", "answers", "hand_in 1", "help", "quit", "say table", "none", "None", "find1",
                "put1 2", "finds 1", "fin 1", "finish0", "table;", "tables", "unsound", "packed", "root", "pages",
                "stretch1 2")
    for number in NUMBERS_THAT_ARE_NONE + TOO_GREAT:
        yield from (f"find {number}", f"cut {number}", f"put {number} 1", f"put 1 {number}", f"stretch {number} 5",
                    f"stretch 1 {number}", f"move {number}", f"answer {number}", f"put {number} {number}")
    for sign in [chr(number) for number in range(ord("!"), ord("~") + 1)]:
        if not sign.isdigit():
            yield from (f"find {sign}", f"find 1{sign}", f"find 1{sign}1", f"put 1 {sign}", f"move {sign}",
                        f"answer 0{sign}", f"table{sign}", f"{sign}table", f"table {sign}")
            if sign != "-":
                yield from (f"find {sign}1", f"put 1 {sign}1", f"move {sign}0", f"answer {sign}0")
    for number in NO_SHORT_ONES:
        yield from (f"move {number}", f"answer {number}")
    for low, high in ((1, 1), (2, 1), (0, 0), (0, -1), (-1, -1), (-1, -2), (10, 9), (100, 20), (BIG, BIG), (BIG, -BIG),
                      (BIG, BIG - 1), (-BIG, -BIG), (5, -5), (1000, 999), (-9, -10), (BIG, BIG + 1), (0, BIG + 1),
                      (-BIG - 1, -BIG), (-BIG - 1, 0)):
        yield f"stretch {low} {high}"


BAD_ROWS = sorted(set(rows_that_are_none()))


class Refused(unittest.TestCase):
    def refuse(self, desk, row, error):
        with self.assertRaises(error) as caught:
            desk.say(row)
        self.assertIs(type(caught.exception), error)
        self.assertIsInstance(caught.exception, SideError)
        self.assertIsInstance(caught.exception, ValueError)
        for other in (NoPage, NoHand, NoRow, NoDeed, Busy):
            self.assertEqual(isinstance(caught.exception, other), other is error)

    def test_rows_that_are_none(self):
        self.assertGreater(len(BAD_ROWS), 700)
        desk = filled(2, 2, 3)
        for row in BAD_ROWS:
            with self.subTest(row=row[:60]):
                self.refuse(desk, row, NoRow)
        self.assertEqual(desk.say("find 1"), "3")

    def test_by_no_row_ahead_of_all_else(self):
        # No hand, no deed and a busy desk are there to be refused too.
        desk = Desk(2, 1)
        for row in ("move -1", "move 1000", "move 01", "move 7 ", "move 7 7", " move 7", "answer -1", "answer 1000",
                    "answer 00", "answer 5 5", "answer  5"):
            self.refuse(desk, row, NoRow)
        desk.say("find 1")
        for row in ("pack ", " pack", "pack 1", "Pack", "PACK"):
            self.refuse(desk, row, NoRow)

    def test_hands_that_are_none(self):
        for hands in range(1, 9):
            desk = Desk(2, hands)
            for hand in (hands, hands + 1, 9, 10, 99, 100, 998, 999):
                self.refuse(desk, f"move {hand}", NoHand)
            desk.say("find 1")
            desk.say(f"move {hands - 1}")
            for hand in (hands, 999):
                self.refuse(desk, f"move {hand}", NoHand)

    def test_deeds_that_are_none(self):
        desk = Desk(2, 2)
        for number in (0, 1, 999):
            self.refuse(desk, f"answer {number}", NoDeed)
        for count in range(1, 4):
            desk.say("find 1")
            self.assertEqual(desk.say(f"answer {count - 1}"), "-")
            for number in (count, count + 1, 10, 99, 999):
                self.refuse(desk, f"answer {number}", NoDeed)
        desk.say("finish")
        self.refuse(desk, "answer 3", NoDeed)
        desk.say("pack")
        self.refuse(desk, "answer 3", NoDeed)
        self.assertEqual(said(desk, "answer 2", "find 5", "answer 3"), ["-", "3", "-"])

    def test_a_pack_while_something_is_going_on(self):
        desk = filled(2, 3, 2)
        desk.say("put 30 3")
        self.refuse(desk, "pack", Busy)
        for row in ("move 2", "move 2"):
            desk.say(row)
            self.refuse(desk, "pack", Busy)
        self.assertEqual(desk.say("table"), "10:1,20:2,30:3")
        self.assertEqual(desk.say("move 2"), "raised 2 2 0 2")
        self.assertEqual(desk.say("pack"), "3")
        desk.say("find 1")
        desk.say("find 2")
        desk.say("move 0")
        self.refuse(desk, "pack", Busy)
        desk.say("move 0")
        desk.say("move 0")
        self.refuse(desk, "pack", Busy)
        desk.say("finish")
        self.assertEqual(desk.say("pack"), "3")

    def test_a_waiting_deed_alone_and_a_held_walk_alone(self):
        desk = Desk(2, 2)
        desk.say("find 1")
        self.refuse(desk, "pack", Busy)
        desk.say("move 1")
        self.refuse(desk, "pack", Busy)
        self.assertEqual(desk.say("move 1"), "found 1 0 0 -")
        self.assertEqual(desk.say("pack"), "1")

    def test_as_if_it_had_not_been_said(self):
        """Two desks told the same rows, one of them refused ones between: all answers are the same."""
        for seed in range(40):
            pick = picker(70000 + seed)
            room, hands = 2 + seed % 7, 1 + seed // 7 % 8
            desk, other = Desk(room, hands), Desk(room, hands)
            handed = 0
            for turn in range(60):
                for wrong in range(1 + pick(3)):
                    row = BAD_ROWS[pick(len(BAD_ROWS))]
                    row = (row, f"move {hands + pick(20)}", f"answer {handed + pick(20)}")[pick(3)]
                    with self.assertRaises(SideError):
                        desk.say(row)
                row = some_row(pick, hands, handed)
                handed += row.split()[0] in ("find", "put", "cut", "stretch")
                self.same(desk, other, row)
                for asked in ("table", "sound", f"answer {pick(handed + 1)}", "pack"):
                    if turn % 5 == 0 or asked != "pack":
                        self.same(desk, other, asked)
            for number in range(handed):
                self.same(desk, other, f"answer {number}")
            for row in ("finish", "table", "pack", "table", "find 1", "finish", f"answer {handed}"):
                self.same(desk, other, row)

    def same(self, desk, other, row):
        answers = []
        for one in (desk, other):
            try:
                answers.append(one.say(row))
            except SideError as error:
                answers.append(type(error))
        self.assertEqual(answers[0], answers[1], row)

    def test_each_refused_row_leaves_a_desk_in_the_midst_as_it_was(self):
        desk, other = (filled(2, 3, 9) for turn in range(2))
        for one in (desk, other):
            said(one, "put 35 1", "stretch 0 99", "cut 20", "find 30", "move 0", "move 0", "move 1", "move 1")
        for row in BAD_ROWS + ["move 3", "move 999", "answer 13", "answer 999", "pack"]:
            with self.assertRaises(SideError):
                desk.say(row)
        for row in ("table", "sound", "answer 0", "answer 9", "move 0", "move 1", "move 2", "finish", "answer 10",
                    "answer 11", "answer 12", "table", "pack", "find 1", "finish"):
            self.same(desk, other, row)


def some_row(pick, hands, handed, keys=40):
    """A row by chance: deeds, moves and asking."""
    words = ["put"] * 3 + ["find", "cut", "stretch"] + ["move"] * 9 + ["answer", "table", "finish"]
    word = words[pick(len(words))]
    key = pick(keys) - keys // 2
    if word == "put":
        return f"put {key} {pick(100) - 50}"
    if word in ("find", "cut"):
        return f"{word} {key}"
    if word == "stretch":
        return f"stretch {key} {key + 1 + pick(keys)}"
    if word == "move":
        return f"move {pick(hands)}"
    if word == "answer" and handed:
        return f"answer {pick(handed)}"
    if word == "finish" and pick(3):
        return "sound"
    return word if word != "answer" else "table"


class PlainDesk:
    """A plain table that does each deed when its move is told found, put, cut or read, from the texts alone."""

    def __init__(self, test, room, hands):
        self.test = test
        self.room = room
        self.hands = hands
        self.table = {}
        self.deeds = []
        self.answers = {}
        self.parts = {}
        self.taken = 0
        self.held = {}

    def going(self):
        return self.taken < len(self.deeds) or bool(self.held)

    def hear(self, row, answer):
        words = row.split(" ")
        getattr(self, "hear_" + words[0], self.hear_deed)(words, answer)

    def hear_deed(self, words, answer):
        self.test.assertEqual(answer, str(len(self.deeds)))
        self.deeds.append([words[0]] + [int(word) for word in words[1:]])

    def shown_pairs(self, pairs):
        return ",".join(f"{key}:{worth}" for key, worth in pairs) or "-"

    def hear_table(self, words, answer):
        self.test.assertEqual(answer, self.shown_pairs(sorted(self.table.items())))

    def hear_sound(self, words, answer):
        self.test.assertEqual(answer, "yes")

    def hear_answer(self, words, answer):
        self.test.assertEqual(answer, self.answers.get(int(words[1]), "-"))

    def hear_pack(self, words, answer):
        self.test.assertFalse(self.going())
        self.test.assertEqual(answer, str(len(plain_packed(sorted(self.table.items()), self.room))))

    def hear_move(self, words, answer):
        hand = words[1]
        told = answer.split(" ")
        self.test.assertEqual(told[1], hand)
        if hand not in self.held:
            if self.taken == len(self.deeds):
                self.test.assertEqual(answer, f"rest {hand}")
            else:
                self.test.assertEqual(answer, f"take {hand} {self.taken}")
                self.held[hand] = self.taken
                self.taken += 1
            return
        number = self.held[hand]
        self.test.assertEqual(told[2], str(number))
        if told[0] in ("found", "put", "cut"):
            self.do_deed(number, told)
        elif told[0] == "read":
            self.do_read(number, told)
        else:
            self.test.assertIn(told[0], ("side", "down", "told", "raised"))
        ends = told[0] in ("found", "cut", "raised") or told[0] in ("put", "told", "read") and told[-1] == "-"
        if ends:
            del self.held[hand]
            self.answers[number] = self.parts[number]

    def do_deed(self, number, told):
        word, key = self.deeds[number][:2]
        self.test.assertEqual(told[0], {"find": "found"}.get(word, word))
        old = str(self.table.get(key, "-"))
        self.test.assertEqual(told[4], old)
        self.test.assertNotIn(number, self.parts)
        self.parts[number] = old
        if word == "put":
            self.table[key] = self.deeds[number][2]
        if word == "cut":
            self.table.pop(key, None)

    def do_read(self, number, told):
        deed = self.deeds[number]
        self.test.assertEqual(deed[0], "stretch")
        low = deed[3] if len(deed) > 3 else deed[1]
        high = deed[2] if told[6] == "-" else int(told[6])
        pairs = [(key, self.table[key]) for key in sorted(self.table) if low <= key < high]
        self.test.assertEqual(told[4], self.shown_pairs(pairs))
        self.deeds[number] = deed[:3] + [high]
        ahead = self.parts.get(number, "-")
        shown = [text for text in (ahead, told[4]) if text != "-"]
        self.parts[number] = ",".join(shown) or "-"


class FromTheTextsAlone(unittest.TestCase):
    """Two desks: one is told finish, the other the moves that it stands for."""

    def run_one(self, seed, rows=120):
        pick = picker(seed)
        room, hands = 2 + seed % 7, 1 + seed // 7 % 8
        desk, moved = Desk(room, hands), Desk(room, hands)
        plain = PlainDesk(self, room, hands)
        for turn in range(rows):
            self.tell(desk, moved, plain, some_row(pick, hands, len(plain.deeds)))
            if pick(20) == 0:
                self.try_pack(desk, moved, plain)
        self.tell(desk, moved, plain, "finish")
        for number in range(len(plain.deeds)):
            self.tell(desk, moved, plain, f"answer {number}")
        self.assertEqual(sorted(plain.answers), list(range(len(plain.deeds))))
        for row in ("table", "sound", "pack", "table", "sound"):
            self.tell(desk, moved, plain, row)

    def tell(self, desk, moved, plain, row):
        answer = desk.say(row)
        if row != "finish":
            self.assertEqual(moved.say(row), answer)
            plain.hear(row, answer)
            return
        moves = 0
        while plain.going():
            move = f"move {moves % plain.hands}"
            plain.hear(move, moved.say(move))
            moves += 1
            self.assertLess(moves, 5000)
        self.assertEqual(answer, str(moves))

    def try_pack(self, desk, moved, plain):
        if not plain.going():
            self.tell(desk, moved, plain, "pack")
            return
        for one in (desk, moved):
            with self.assertRaises(Busy):
                one.say("pack")

    def test_many_scripts(self):
        for seed in range(112):
            with self.subTest(seed=seed):
                self.run_one(seed)

    def test_long_scripts(self):
        for seed in range(7):
            with self.subTest(seed=seed):
                self.run_one(9 * seed + 200, rows=700)


class AgainstAWeaver(unittest.TestCase):
    """A desk beside a weaver that does the same deeds: each text is what the weaver told."""

    def shown(self, told):
        texts = []
        for part in told:
            if isinstance(part, (list, tuple)):
                part = ",".join(f"{key}:{worth}" for key, worth in part) or None
            texts.append("-" if part is None else f"{part}")
        return " ".join(texts)

    def test_many_scripts(self):
        for seed in range(56):
            pick = picker(40000 + seed)
            room, hands = 2 + seed % 7, 1 + seed // 7
            desk = Desk(room, hands)
            shelf = Shelf(room)
            weaver = Weaver(shelf, hands)
            handed = 0
            for turn in range(100):
                row = some_row(pick, hands, handed)
                word, *numbers = row.split(" ")
                numbers = [int(number) for number in numbers]
                answer = desk.say(row)
                if word == "move":
                    self.assertEqual(answer, self.shown(weaver.move(numbers[0])))
                elif word == "finish":
                    self.assertEqual(answer, str(len(weaver.finish())))
                elif word == "table":
                    self.assertEqual(answer, self.shown([table_of(shelf)]))
                elif word == "answer":
                    self.assertEqual(answer, self.shown([dict(weaver.answers()).get(numbers[0])]))
                elif word != "sound":
                    self.assertEqual(answer, str(weaver.hand_in((word, *numbers))))
                    handed += 1
            self.assertEqual(desk.say("finish"), str(len(weaver.finish())))
            self.behind_a_pack(desk, shelf, room, hands)

    def behind_a_pack(self, desk, shelf, room, hands):
        """On the packed shelf a deed makes the steps that a walk makes there."""
        table = table_of(shelf)
        tight = packed(table, room)
        self.assertEqual(desk.say("pack"), str(tight.pages()))
        self.assertEqual(pages_of(tight), plain_packed(table, room))
        for key in (-30, 0, 7, 30):
            number = desk.say(f"put {key} 1")
            rows = run_walk(Walk(tight, ("put", key, 1)))
            self.assertEqual(desk.say(f"move {hands - 1}"), f"take {hands - 1} {number}")
            for row in rows:
                self.assertEqual(desk.say(f"move {hands - 1}"), self.shown((row[0], hands - 1, number) + row[1:]))
            self.assertEqual(desk.say("table"), self.shown([table_of(tight)]))


if __name__ == "__main__":
    unittest.main()
