"""Packing a table into a new shelf: full leaves from the left, and full forks over them, level by level.

A fill is a tuple (begin, keys, parts): a page that has no high and no side yet.
"""

from sidelink.shelves import Shelf


def packed(table, room):
    level = 0
    fills = leaf_fills(table, room)
    pages = linked(level, fills, 0)
    while len(fills) > 1:
        level += 1
        fills = fork_fills(fills, len(pages) - len(fills), room + 1)
        pages.extend(linked(level, fills, len(pages)))
    return shelf_of(pages, room)


def leaf_fills(table, room):
    if not table:
        return [(None, (), ())]
    fills = []
    for start in range(0, len(table), room):
        pairs = table[start:start + room]
        keys = tuple([pair[0] for pair in pairs])
        fills.append((keys[0], keys, tuple([pair[1] for pair in pairs])))
    return fills


def fork_fills(kids, first, most):
    fills = []
    start = 0
    for count in kid_counts(len(kids), most):
        stop = start + count
        begins = [kid[0] for kid in kids[start:stop]]
        fills.append((begins[0], tuple(begins[1:]), tuple(range(first + start, first + stop))))
        start = stop
    return fills


def kid_counts(kids, most):
    counts = [most] * (kids // most)
    rest = kids % most
    if rest == 1:
        # A fork of one kid would have no key, so it takes one from the fork ahead.
        return counts[:-1] + [most - 1, 2]
    return counts + [rest] if rest > 0 else counts


def linked(level, fills, first):
    pages = []
    for place in range(len(fills)):
        behind = place + 1
        is_last = behind == len(fills)
        high = None if is_last else fills[behind][0]
        side = None if is_last else first + behind
        pages.append((level, fills[place][1], fills[place][2], high, side))
    return pages


def shelf_of(pages, room):
    shelf = Shelf(room)
    # A new shelf has its page 0 already.
    shelf.write(0, pages[0])
    for page in pages[1:]:
        shelf.lay(page)
    shelf.make_root(len(pages) - 1)
    return shelf
