"""The look at a whole shelf: its levels, what is wrong with them, which pages no fork tells, and its table.

A look works on a picture of the shelf: its pages as a list, by their numbers. The begin of a page is the high of the
page ahead of it on its level's list, None of the first one. A page above the lowest list has kids, its parts,
whatever its own level.
"""

from sidelink.pages import HIGH, KEYS, LEVEL, PARTS, SIDE


def levels(shelf):
    return level_lists(shelf.picture(), shelf.root())


def faults(shelf):
    pages = shelf.picture()
    lists = level_lists(pages, shelf.root())
    told = []
    for place in range(len(lists)):
        level = len(lists) - 1 - place
        beneath = lists[place + 1] if level > 0 else []
        told.extend(list_faults(pages, lists[place], level, beneath))
    return told


def is_sound(shelf):
    return faults(shelf) == []


def untold(shelf):
    pages = shelf.picture()
    lists = level_lists(pages, shelf.root())
    told = []
    for place in range(1, len(lists)):
        kids = kids_of(pages, lists[place - 1])
        told.extend([number for number in lists[place] if number not in kids])
    return told


def table_of(shelf):
    pages = shelf.picture()
    table = []
    for number in level_lists(pages, shelf.root())[-1]:
        # A page written by hand may have more keys than parts, or fewer: zip goes as far as both do.
        table.extend(list(zip(pages[number][KEYS], pages[number][PARTS])))
    return table


def level_lists(pages, root):
    lists = []
    listed = {}
    leftmost = root
    while len(lists) <= pages[root][LEVEL]:
        numbers = side_run(pages, leftmost, listed)
        lists.append(numbers)
        leftmost = first_kid(pages, numbers)
    return lists


def side_run(pages, leftmost, listed):
    numbers = []
    number = leftmost
    while number is not None and 0 <= number < len(pages) and number not in listed:
        # Marked for all lists, so that sides and kids that lead round come to an end.
        listed[number] = True
        numbers.append(number)
        number = pages[number][SIDE]
    return numbers


def first_kid(pages, numbers):
    if not numbers or not pages[numbers[0]][PARTS]:
        return None
    return pages[numbers[0]][PARTS][0]


def kids_of(pages, numbers):
    kids = {}
    for number in numbers:
        for kid in pages[number][PARTS]:
            kids[kid] = True
    return kids


def begins_of(pages, numbers):
    begins = {}
    begin = None
    for number in numbers:
        begins[number] = begin
        begin = pages[number][HIGH]
    return begins


def list_faults(pages, numbers, level, beneath):
    begins = begins_of(pages, numbers)
    kid_begins = begins_of(pages, beneath)
    told = []
    for place in range(len(numbers)):
        number = numbers[place]
        page = pages[number]
        follower = numbers[place + 1] if place + 1 < len(numbers) else None
        told.extend(page_faults(number, page, level, begins[number], follower))
        if level > 0:
            told.extend(kid_faults(number, page, begins[number], kid_begins))
    return told


def page_faults(number, page, level, begin, follower):
    told = []
    if page[LEVEL] != level:
        told.append(("level", number))
    if not is_ordered(page, begin):
        told.append(("order", number))
    if len(page[PARTS]) != wanted_parts(page):
        told.append(("parts", number))
    if (page[HIGH] is None) != (page[SIDE] is None) or page[SIDE] != follower:
        told.append(("links", number))
    return told


def is_ordered(page, begin):
    keys = page[KEYS]
    high = page[HIGH]
    if not all([pair[0] < pair[1] for pair in zip(keys, keys[1:])]):
        return False
    if begin is not None and not all([begin <= key for key in keys]):
        return False
    if high is not None and not all([key < high for key in keys]):
        return False
    return begin is None or high is None or begin < high


def wanted_parts(page):
    return len(page[KEYS]) if page[LEVEL] == 0 else len(page[KEYS]) + 1


def kid_faults(number, page, begin, kid_begins):
    kids = page[PARTS]
    # The begin that the kid at each place must have; a kid behind all of these has no key ahead.
    wanted = (begin,) + page[KEYS]
    told = []
    for place in range(len(kids)):
        kid = kids[place]
        if place >= len(wanted) or kid not in kid_begins or kid_begins[kid] != wanted[place]:
            told.append(("kid", number, place))
    return told
