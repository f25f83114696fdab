"""Parting a page that has more keys than its room into two that are linked by their sides."""

from sidelink.pages import HIGH, KEYS, LEVEL, PARTS, SIDE


def is_full(page, room):
    return len(page[KEYS]) > room


def parted(page, number):
    level = page[LEVEL]
    keys = page[KEYS]
    parts = page[PARTS]
    middle = len(keys) // 2
    key = keys[middle]
    # A leaf's parting key goes along with its worth; a fork's stays in neither page,
    # for the kid behind it is the first of the new page, which has no key ahead.
    cut = middle if level == 0 else middle + 1
    old = (level, keys[:middle], parts[:cut], key, number)
    new = (level, keys[cut:], parts[cut:], page[HIGH], page[SIDE])
    return (old, new, key)
