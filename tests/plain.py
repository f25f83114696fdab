"""What the tests hold the program against: walks and looks told a second time over plain lists."""

import bisect

BIG = 10 ** 30
EMPTY = (0, (), (), None, None)


def picker(seed):
    """A row of numbers that is the same each time and under each Python: pick(n) tells one from 0 to n - 1."""
    state = [seed * 2654435761 + 12345]

    def pick(n):
        state[0] = (state[0] * 6364136223846793005 + 1442695040888963407) % 2 ** 64
        return (state[0] >> 33) % n

    return pick


def deeds_of(pick, count, keys):
    """Deeds of all words by chance, more puts than others."""
    deeds = []
    for turn in range(count):
        word = ("put", "put", "put", "put", "find", "cut", "stretch")[pick(7)]
        key = pick(keys) - keys // 2
        if word == "put":
            deeds.append((word, key, pick(1000) - 500))
        elif word == "stretch":
            deeds.append((word, key, key + 1 + pick(keys)))
        else:
            deeds.append((word, key))
    return deeds


def run_walk(walk):
    """All rows of the walk up to its end, which must come."""
    rows = []
    while not walk.over():
        rows.append(walk.step())
        if len(rows) > 1000:
            raise AssertionError(f"the walk comes to no end: {rows[:20]}")
    return rows


def pages_of(shelf):
    return [shelf.read(number) for number in range(shelf.pages())]


def counts_of(shelf):
    return (shelf.readings(), shelf.writings())


def shelf_state(shelf):
    """Counts are asked first, for looking at the pages counts as reading."""
    return counts_of(shelf) + (shelf.root(), shelf.room(), shelf.pages(), pages_of(shelf))


def shelve(shelf, pages, root):
    """Fills a new shelf with pages made by hand."""
    shelf.write(0, pages[0])
    for page in pages[1:]:
        shelf.lay(page)
    shelf.make_root(root)
    return shelf


def leaf_table(pages):
    """The table that the leaves show, from page 0 on by their sides."""
    table = {}
    number = 0
    while number is not None:
        level, keys, worths, high, side = pages[number]
        if level != 0 or [key for key in keys if key in table]:
            raise AssertionError(f"page {number} is no leaf, or has a key again: {pages}")
        table.update(zip(keys, worths))
        number = side
    return table


def level_list(pages, number):
    numbers = []
    while number is not None:
        if number in numbers:
            raise AssertionError(f"the sides lead round: {pages}")
        numbers.append(number)
        number = pages[number][4]
    return numbers


def unsound(pages, root):
    """What is wrong with the tree, as a list of texts."""
    wrong = []
    begins = {}
    above = []
    leftmost = root
    for level in range(pages[root][0], -1, -1):
        numbers = level_list(pages, leftmost)
        begin = None
        for number in numbers:
            begins[number] = begin
            wrong += page_faults(number, pages[number], level, begin)
            begin = pages[number][3]
        for number in above:
            keys, kids = pages[number][1:3]
            for ahead, kid in zip((begins[number],) + keys, kids):
                if kid not in numbers or begins[kid] != ahead:
                    wrong.append(f"kid {kid} of page {number}")
        above = numbers
        leftmost = pages[numbers[0]][2][0] if level else None
    return wrong


def page_faults(number, page, level, begin):
    own, keys, parts, high, side = page
    fine = own == level and len(parts) == len(keys) + (1 if level else 0) and (high is None) == (side is None)
    bounds = [bound for bound in (begin, high) if bound is not None]
    fine = fine and list(keys) == sorted(set(keys)) and bounds == sorted(set(bounds))
    fine = fine and all(begin is None or key >= begin for key in keys)
    fine = fine and all(high is None or key < high for key in keys)
    return [] if fine else [f"page {number}: {page}"]


def kid_counts(pages):
    """How often each page is a kid of some fork."""
    counts = [0] * len(pages)
    for level, keys, parts, high, side in pages:
        for kid in parts if level else ():
            counts[kid] += 1
    return counts


def plain_levels(pages, root):
    lists = []
    used = set()
    number = root
    for level in range(pages[root][0] + 1):
        row = []
        while number in range(len(pages)) and number not in used:
            used.add(number)
            row.append(number)
            number = pages[number][4]
        lists.append(row)
        number = next(iter(pages[row[0]][2]), None) if row else None
    return lists


def plain_faults(pages, root):
    """The faults of a shelf's pages, told a second time."""
    told = []
    lists = plain_levels(pages, root)
    for depth, row in enumerate(lists):
        level = pages[root][0] - depth
        for place, number in enumerate(row):
            own, keys, parts, high, side = pages[number]
            begin = pages[row[place - 1]][3] if place else None
            chain = [bound for bound in (begin, high) if bound is not None]
            held = {
                "level": own == level,
                "order": list(keys) == sorted(set(keys)) and chain == sorted(set(chain))
                and (begin is None or min(keys, default=begin) >= begin)
                and (high is None or max(keys, default=high - 1) < high),
                "parts": len(parts) - len(keys) == (0 if own == 0 else 1),
                "links": [high, side].count(None) != 1 and [side] == (row + [None])[place + 1:place + 2],
            }
            told += [(word, number) for word in held if not held[word]]
            if level:
                told += [("kid", number, at) for at in range(len(parts))
                         if not plain_kid_fits(pages, lists[depth + 1], begin, pages[number], at)]
    return told


def plain_kid_fits(pages, beneath, begin, page, at):
    if page[2][at] not in beneath or at > len(page[1]):
        return False
    place = beneath.index(page[2][at])
    ahead = pages[beneath[place - 1]][3] if place else None
    return ahead == (page[1][at - 1] if at else begin)


def plain_untold(pages, root):
    lists = plain_levels(pages, root)
    return [number for above, row in zip(lists, lists[1:]) for number in row
            if not any(number in pages[other][2] for other in above)]


def plain_table(pages, root):
    return [pair for number in plain_levels(pages, root)[-1] for pair in zip(*pages[number][1:3])]


def plain_packed(table, room):
    """The pages of a packed table, told a second time: (begin, kids or pairs) level by level, then numbered."""
    leaves = [table[at:at + room] for at in range(0, len(table), room)] or [[]]
    rows = [[(pairs[0][0] if pairs else None, pairs) for pairs in leaves]]
    while len(rows[-1]) > 1:
        beneath = rows[-1]
        places = list(range(len(beneath)))
        groups = []
        while places:
            groups.append([places.pop(0) for turn in range(min(room + 1, len(places)))])
        if len(groups[-1]) == 1:
            groups[-1].insert(0, groups[-2].pop())
        rows.append([(beneath[group[0]][0], group) for group in groups])
    pages = []
    first = 0
    for level, row in enumerate(rows):
        behind = row[1:] + [None]
        below = first
        first = len(pages)
        for number, ((begin, held), after) in enumerate(zip(row, behind), start=first):
            high, side = (None, None) if after is None else (after[0], number + 1)
            if level == 0:
                keys, parts = tuple(key for key, worth in held), tuple(worth for key, worth in held)
            else:
                keys = tuple(rows[level - 1][place][0] for place in held[1:])
                parts = tuple(below + place for place in held)
            pages.append((level, keys, parts, high, side))
    return pages


class PlainTree:
    """The pages, the root and the room, for PlainWalk to work on."""

    def __init__(self, room):
        self.room = room
        self.pages = [EMPTY]
        self.root = 0


class PlainWalk:
    """A deed done step by step on a PlainTree, told straight from the document's words."""

    def __init__(self, tree, deed):
        self.tree = tree
        self.deed = deed
        self.kept = {}
        self.pairs = []
        self.answer = None
        self.over = False
        self.steps = self.whole()

    def step(self):
        return None if self.over else next(self.steps)

    def ended(self, row, answer):
        self.over = True
        self.answer = answer
        return row

    def whole(self):
        tree = self.tree
        word, aim = self.deed[:2]
        number = tree.root
        while True:
            moved = self.way(number, aim, 0)
            if moved is not None:
                yield moved
                number = moved[2]
                continue
            level, keys, worths, high, side = tree.pages[number]
            table = dict(zip(keys, worths))
            old = table.get(aim)
            if word == "find":
                yield self.ended(("found", number, old), old)
            elif word == "cut":
                table.pop(aim, None)
                self.fill_leaf(number, table)
                yield self.ended(("cut", number, old), old)
            elif word == "put":
                table[aim] = self.deed[2]
                self.fill_leaf(number, table)
                yield from self.tell(number, old)
            else:
                low, top = self.deed[1:]
                pairs = tuple((key, worth) for key, worth in zip(keys, worths) if low <= key < top)
                self.pairs += pairs
                if high is None or high >= top:
                    yield self.ended(("read", number, pairs, None, None), self.pairs)
                yield ("read", number, pairs, side, high)
                number, aim = side, high

    def way(self, number, aim, goal):
        level, keys, parts, high, side = self.tree.pages[number]
        if high is not None and aim >= high:
            return ("side", number, side)
        if level > goal:
            self.kept[level] = number
            return ("down", number, parts[bisect.bisect_right(keys, aim)])
        return None

    def fill_leaf(self, number, table):
        keys = tuple(sorted(table))
        self.tree.pages[number] = (0, keys, tuple(table[key] for key in keys)) + self.tree.pages[number][3:]

    def tell(self, number, old):
        tree = self.tree
        new = self.split(number)
        row = ("put", number, old, new)
        goal = 0
        while new is not None:
            # Ahead of the yield, for behind it another walk may have parted the page again.
            aim = tree.pages[number][3]
            yield row
            goal += 1
            number = self.kept.get(goal)
            if number is None:
                number = tree.root
                if tree.pages[number][0] < goal:
                    tree.pages.append((goal, (aim,), (number, new), None, None))
                    tree.root = len(tree.pages) - 1
                    yield self.ended(("raised", number, tree.root), old)
            moved = self.way(number, aim, goal)
            while moved is not None:
                yield moved
                number = moved[2]
                moved = self.way(number, aim, goal)
            level, keys, kids, high, side = tree.pages[number]
            place = bisect.bisect_right(keys, aim)
            keys = keys[:place] + (aim,) + keys[place:]
            kids = kids[:place + 1] + (new,) + kids[place + 1:]
            tree.pages[number] = (level, keys, kids, high, side)
            new = self.split(number)
            row = ("told", number, new)
        yield self.ended(row, old)

    def split(self, number):
        tree = self.tree
        level, keys, parts, high, side = tree.pages[number]
        if len(keys) <= tree.room:
            return None
        half = len(keys) // 2
        new = len(tree.pages)
        right = half + 1 if level else half
        tree.pages[number] = (level, keys[:half], parts[:right], keys[half], new)
        tree.pages.append((level, keys[right:], parts[right:], high, side))
        return new
