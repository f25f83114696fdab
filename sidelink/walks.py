"""A walk does one deed on a shelf, a step at a time, and each step reads one page.

It heads for an aim, a key, on a goal, a level: first for the deed's key on level 0; then, for each page that it
parted, for the parting key on the level above, where the forks are told of the new page.
"""

from sidelink.pages import HIGH, KEYS, LEVEL, PARTS, SIDE, beyond, kid_for, with_kid, with_pair, without, worth_of
from sidelink.splits import is_full, parted


class Walk:
    def __init__(self, shelf, deed):
        self.shelf = shelf
        self.deed = deed
        self.aim = deed[1]
        self.goal = 0
        # None stands for whichever page is the root when the step is made.
        self.place = None
        self.forks = {}
        self.new_page = None
        self.worth = None
        self.pairs = []
        self.ended = False

    def over(self):
        return self.ended

    def answer(self):
        if not self.ended:
            return None
        if self.deed[0] == "stretch":
            return list(self.pairs)
        return self.worth

    def step(self):
        if self.ended:
            return None
        number = self.shelf.root() if self.place is None else self.place
        page = self.shelf.read(number)
        # Ahead of the look to the side: a root that is too low is raised even where it has been parted.
        if self.place is None and page[LEVEL] < self.goal:
            return self.raise_root_over(number)
        if beyond(page, self.aim):
            return self.go_on("side", number, page[SIDE])
        if page[LEVEL] > self.goal:
            self.forks[page[LEVEL]] = number
            return self.go_on("down", number, kid_for(page, self.aim))
        if self.goal > 0:
            return self.tell_fork(number, page)
        return self.do_deed(number, page)

    def go_on(self, word, number, to):
        self.place = to
        return (word, number, to)

    def do_deed(self, number, leaf):
        word = self.deed[0]
        if word == "find":
            return self.find_worth(number, leaf)
        if word == "put":
            return self.put_pair(number, leaf)
        if word == "cut":
            return self.cut_key(number, leaf)
        return self.read_pairs(number, leaf)

    def find_worth(self, number, leaf):
        self.worth = worth_of(leaf, self.aim)
        self.ended = True
        return ("found", number, self.worth)

    def put_pair(self, number, leaf):
        self.worth = worth_of(leaf, self.aim)
        new_page = self.settle(number, with_pair(leaf, self.aim, self.deed[2]))
        return ("put", number, self.worth, new_page)

    def cut_key(self, number, leaf):
        self.worth = worth_of(leaf, self.aim)
        if self.worth is not None:
            self.shelf.write(number, without(leaf, self.aim))
        self.ended = True
        return ("cut", number, self.worth)

    def read_pairs(self, number, leaf):
        low = self.deed[1]
        high = self.deed[2]
        pairs = [pair for pair in zip(leaf[KEYS], leaf[PARTS]) if low <= pair[0] < high]
        self.pairs.extend(pairs)
        if leaf[HIGH] is None or leaf[HIGH] >= high:
            self.ended = True
            return ("read", number, tuple(pairs), None, None)
        self.aim = leaf[HIGH]
        self.place = leaf[SIDE]
        return ("read", number, tuple(pairs), self.place, self.aim)

    def tell_fork(self, number, fork):
        new_page = self.settle(number, with_kid(fork, self.aim, self.new_page))
        return ("told", number, new_page)

    def raise_root_over(self, number):
        self.ended = True
        return ("raised", number, self.shelf.raise_root(self.aim, self.new_page))

    def settle(self, number, page):
        if not is_full(page, self.shelf.room()):
            self.shelf.write(number, page)
            self.ended = True
            return None
        halves = parted(page, self.shelf.pages())
        # The new page is laid first: the old one's side never leads to a page that is not there.
        self.new_page = self.shelf.lay(halves[1])
        self.shelf.write(number, halves[0])
        self.aim = halves[2]
        self.goal = page[LEVEL] + 1
        self.place = self.forks.get(self.goal)
        return self.new_page
