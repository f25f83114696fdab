"""A shelf keeps pages by numbers, knows which one is the root, and counts readings and writings."""

from sidelink.errors import NoPage
from sidelink.pages import LEVEL

EMPTY_LEAF = (0, (), (), None, None)


class Shelf:
    def __init__(self, room):
        self.page_room = room
        self.kept = [EMPTY_LEAF]
        self.top = 0
        self.read_count = 0
        self.write_count = 0

    def read(self, number):
        self.check_number(number)
        self.read_count += 1
        return self.kept[number]

    def write(self, number, page):
        self.check_number(number)
        self.write_count += 1
        self.kept[number] = page

    def lay(self, page):
        self.write_count += 1
        self.kept.append(page)
        return len(self.kept) - 1

    def root(self):
        return self.top

    def make_root(self, number):
        self.check_number(number)
        self.top = number

    def raise_root(self, key, number):
        self.check_number(number)
        # Not by read: raising the root counts no reading.
        level = self.kept[self.top][LEVEL] + 1
        self.top = self.lay((level, (key,), (self.top, number), None, None))
        return self.top

    def room(self):
        return self.page_room

    def pages(self):
        return len(self.kept)

    def readings(self):
        return self.read_count

    def writings(self):
        return self.write_count

    def picture(self):
        # For those who only look: a list of their own, and no reading is counted.
        return list(self.kept)

    def check_number(self, number):
        # A list would take numbers below 0 as counted from its end.
        if not 0 <= number < len(self.kept):
            raise NoPage("no page has this number")
