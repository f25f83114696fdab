"""What the tests hold the program against: walks told a second time over plain lists, and a look at whole shelves."""

import bisect

BIG = 10 ** 30
EMPTY = (0, (), (), None, None)


def picker(seed):
    """A row of numbers that is the same each time and under each Python: pick(n) tells one from 0 to n - 1."""
    state = [seed * 2654435761 + 12345]

    def pick(n):
        state[0] = (state[0] * 6364136223846793005 + 1442695040888963407) % 2 ** 64
        return (state[0] >> 33) % n

    return pick


def run_walk(walk):
    """All rows of the walk up to its end, which must come."""
    rows = []
    while not walk.over():
        rows.append(walk.step())
        if len(rows) > 1000:
            raise AssertionError(f"the walk comes to no end: {rows[:20]}")
    return rows


def pages_of(shelf):
    return [shelf.read(number) for number in range(shelf.pages())]


def counts_of(shelf):
    return (shelf.readings(), shelf.writings())


def shelf_state(shelf):
    """Counts are asked first, for looking at the pages counts as reading."""
    return counts_of(shelf) + (shelf.root(), shelf.room(), shelf.pages(), pages_of(shelf))


def leaf_table(pages):
    """The table that the leaves show, from page 0 on by their sides."""
    table = {}
    number = 0
    while number is not None:
        level, keys, worths, high, side = pages[number]
        if level != 0 or [key for key in keys if key in table]:
            raise AssertionError(f"page {number} is no leaf, or has a key again: {pages}")
        table.update(zip(keys, worths))
        number = side
    return table


def level_list(pages, number):
    numbers = []
    while number is not None:
        if number in numbers:
            raise AssertionError(f"the sides lead round: {pages}")
        numbers.append(number)
        number = pages[number][4]
    return numbers


def unsound(pages, root):
    """What is wrong with the tree, as a list of texts."""
    wrong = []
    begins = {}
    above = []
    leftmost = root
    for level in range(pages[root][0], -1, -1):
        numbers = level_list(pages, leftmost)
        begin = None
        for number in numbers:
            begins[number] = begin
            wrong += page_faults(number, pages[number], level, begin)
            begin = pages[number][3]
        for number in above:
            keys, kids = pages[number][1:3]
            for ahead, kid in zip((begins[number],) + keys, kids):
                if kid not in numbers or begins[kid] != ahead:
                    wrong.append(f"kid {kid} of page {number}")
        above = numbers
        leftmost = pages[numbers[0]][2][0] if level else None
    return wrong


def page_faults(number, page, level, begin):
    own, keys, parts, high, side = page
    fine = own == level and len(parts) == len(keys) + (1 if level else 0) and (high is None) == (side is None)
    bounds = [bound for bound in (begin, high) if bound is not None]
    fine = fine and list(keys) == sorted(set(keys)) and bounds == sorted(set(bounds))
    fine = fine and all(begin is None or key >= begin for key in keys)
    fine = fine and all(high is None or key < high for key in keys)
    return [] if fine else [f"page {number}: {page}"]


def kid_counts(pages):
    """How often each page is a kid of some fork."""
    counts = [0] * len(pages)
    for level, keys, parts, high, side in pages:
        for kid in parts if level else ():
            counts[kid] += 1
    return counts


class PlainTree:
    """The pages, the root and the room, for PlainWalk to work on."""

    def __init__(self, room):
        self.room = room
        self.pages = [EMPTY]
        self.root = 0


class PlainWalk:
    """A deed done step by step on a PlainTree, told straight from the document's words."""

    def __init__(self, tree, deed):
        self.tree = tree
        self.deed = deed
        self.kept = {}
        self.pairs = []
        self.answer = None
        self.over = False
        self.steps = self.whole()

    def step(self):
        return None if self.over else next(self.steps)

    def ended(self, row, answer):
        self.over = True
        self.answer = answer
        return row

    def whole(self):
        tree = self.tree
        word, aim = self.deed[:2]
        number = tree.root
        while True:
            moved = self.way(number, aim, 0)
            if moved is not None:
                yield moved
                number = moved[2]
                continue
            level, keys, worths, high, side = tree.pages[number]
            table = dict(zip(keys, worths))
            old = table.get(aim)
            if word == "find":
                yield self.ended(("found", number, old), old)
            elif word == "cut":
                table.pop(aim, None)
                self.fill_leaf(number, table)
                yield self.ended(("cut", number, old), old)
            elif word == "put":
                table[aim] = self.deed[2]
                self.fill_leaf(number, table)
                yield from self.tell(number, old)
            else:
                low, top = self.deed[1:]
                pairs = tuple((key, worth) for key, worth in zip(keys, worths) if low <= key < top)
                self.pairs += pairs
                if high is None or high >= top:
                    yield self.ended(("read", number, pairs, None, None), self.pairs)
                yield ("read", number, pairs, side, high)
                number, aim = side, high

    def way(self, number, aim, goal):
        level, keys, parts, high, side = self.tree.pages[number]
        if high is not None and aim >= high:
            return ("side", number, side)
        if level > goal:
            self.kept[level] = number
            return ("down", number, parts[bisect.bisect_right(keys, aim)])
        return None

    def fill_leaf(self, number, table):
        keys = tuple(sorted(table))
        self.tree.pages[number] = (0, keys, tuple(table[key] for key in keys)) + self.tree.pages[number][3:]

    def tell(self, number, old):
        tree = self.tree
        new = self.split(number)
        row = ("put", number, old, new)
        goal = 0
        while new is not None:
            # Ahead of the yield, for behind it another walk may have parted the page again.
            aim = tree.pages[number][3]
            yield row
            goal += 1
            number = self.kept.get(goal)
            if number is None:
                number = tree.root
                if tree.pages[number][0] < goal:
                    tree.pages.append((goal, (aim,), (number, new), None, None))
                    tree.root = len(tree.pages) - 1
                    yield self.ended(("raised", number, tree.root), old)
            moved = self.way(number, aim, goal)
            while moved is not None:
                yield moved
                number = moved[2]
                moved = self.way(number, aim, goal)
            level, keys, kids, high, side = tree.pages[number]
            place = bisect.bisect_right(keys, aim)
            keys = keys[:place] + (aim,) + keys[place:]
            kids = kids[:place + 1] + (new,) + kids[place + 1:]
            tree.pages[number] = (level, keys, kids, high, side)
            new = self.split(number)
            row = ("told", number, new)
        yield self.ended(row, old)

    def split(self, number):
        tree = self.tree
        level, keys, parts, high, side = tree.pages[number]
        if len(keys) <= tree.room:
            return None
        half = len(keys) // 2
        new = len(tree.pages)
        right = half + 1 if level else half
        tree.pages[number] = (level, keys[:half], parts[:right], keys[half], new)
        tree.pages.append((level, keys[right:], parts[right:], high, side))
        return new
