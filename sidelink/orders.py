"""The order of the deeds: the moments of a weaver's rows, held against a plain table.

A moment is a row (word, hand, deed's number, page, and what was told): a worth, or of a read pairs, a page and an aim.
"""

MOMENT_WORDS = ("found", "put", "cut", "read")
WORD_OF_DEED = {"find": "found", "put": "put", "cut": "cut", "stretch": "read"}


def moments(rows):
    return [row for row in rows if row[0] in MOMENT_WORDS]


def judged(rows, deeds, table):
    judge = Judge(deeds, table)
    told = moments(rows)
    for number in range(len(told)):
        if not judge.fits(told[number]):
            return ("unfit", number)
    return ("fits", judge.plain_table())


class Judge:
    def __init__(self, deeds, table):
        self.deeds = deeds
        self.worths = dict(table)
        # Where the next read of a deed begins, by the deed's number, once it has made one.
        self.begins = {}
        self.closed = {}

    def plain_table(self):
        return sorted(self.worths.items())

    def fits(self, row):
        number = row[2]
        # A list would take numbers below 0 as counted from its end.
        if not 0 <= number < len(self.deeds) or number in self.closed:
            return False
        deed = self.deeds[number]
        if row[0] != WORD_OF_DEED[deed[0]]:
            return False
        if row[0] == "read":
            return self.fits_stretch(number, deed, row[4], row[6])
        self.closed[number] = True
        return self.fits_key(deed, row[4])

    def fits_key(self, deed, worth):
        key = deed[1]
        if worth != self.worths.get(key):
            return False
        if deed[0] == "put":
            self.worths[key] = deed[2]
        if deed[0] == "cut" and worth is not None:
            self.worths.pop(key)
        return True

    def fits_stretch(self, number, deed, pairs, aim):
        begin = self.begins.get(number, deed[1])
        end = deed[2]
        if aim is None:
            self.closed[number] = True
        else:
            if not begin < aim < end:
                return False
            self.begins[number] = aim
            end = aim
        return list(pairs) == [pair for pair in self.plain_table() if begin <= pair[0] < end]
