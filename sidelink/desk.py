"""A desk has a weaver on a shelf of its own and is told rows, which it answers by texts."""

from sidelink.errors import Busy, NoDeed
from sidelink.looks import is_sound, table_of
from sidelink.packs import packed
from sidelink.rows import is_deed, read_row, shown
from sidelink.shelves import Shelf
from sidelink.weavers import Weaver


class Desk:
    def __init__(self, room, hands):
        self.shelf = Shelf(room)
        self.weaver = Weaver(self.shelf, hands)
        self.deed_count = 0

    def say(self, row):
        told = read_row(row)
        word = told[0]
        if is_deed(told):
            return str(self.note_deed(told))
        if word == "move":
            return " ".join([shown(part) for part in self.weaver.move(told[1])])
        if word == "finish":
            return str(len(self.weaver.finish()))
        if word == "answer":
            return shown(self.answer_of(told[1]))
        if word == "table":
            return shown(table_of(self.shelf))
        if word == "sound":
            return "yes" if is_sound(self.shelf) else "no"
        return str(self.pack_table())

    def note_deed(self, deed):
        number = self.weaver.hand_in(deed)
        self.deed_count = number + 1
        return number

    def answer_of(self, number):
        if number >= self.deed_count:
            raise NoDeed("no deed has this number")
        # A deed that isn't over is not among the answers; like the answer None it is shown as a dash.
        return dict(self.weaver.answers()).get(number)

    def pack_table(self):
        if not self.weaver.idle():
            raise Busy("a deed waits or a walk is held")
        self.shelf = packed(table_of(self.shelf), self.shelf.room())
        # The weaver stays, and with it the deeds' numbers and answers.
        self.weaver.change_shelf(self.shelf)
        return self.shelf.pages()
