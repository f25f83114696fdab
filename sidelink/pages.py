"""Pages, as tuples (level, keys, parts, high, side), and what is asked of one and changed in one.

A page of level 0 is a leaf, its parts are worths; any other is a fork, its parts are kids.
A changed page is a new tuple. Of keys beyond a page nothing is promised but by beyond.
"""

LEVEL = 0
KEYS = 1
PARTS = 2
HIGH = 3
SIDE = 4


def beyond(page, key):
    high = page[HIGH]
    return high is not None and key >= high


def kid_for(page, key):
    return page[PARTS][count_not_above(page[KEYS], key)]


def worth_of(page, key):
    keys = page[KEYS]
    place = count_below(keys, key)
    if place == count_not_above(keys, key):
        return None
    return page[PARTS][place]


def with_pair(page, key, worth):
    return with_run(page, key, (key,), (worth,))


def without(page, key):
    return with_run(page, key, (), ())


def with_kid(page, key, kid):
    keys = page[KEYS]
    kids = page[PARTS]
    place = count_not_above(keys, key)
    # The new kid begins at the key, so the kid that led there until now stays ahead of it.
    behind = place + 1
    return refilled(page, keys[:place] + (key,) + keys[place:], kids[:behind] + (kid,) + kids[behind:])


def with_run(page, key, new_keys, new_worths):
    keys = page[KEYS]
    worths = page[PARTS]
    start = count_below(keys, key)
    # Start and stop differ just where the leaf has the key, so its old pair falls out by itself.
    stop = count_not_above(keys, key)
    return refilled(page, keys[:start] + new_keys + keys[stop:], worths[:start] + new_worths + worths[stop:])


def refilled(page, keys, parts):
    return (page[LEVEL], keys, parts, page[HIGH], page[SIDE])


def count_below(keys, key):
    return len([other for other in keys if other < key])


def count_not_above(keys, key):
    return len([other for other in keys if other <= key])
