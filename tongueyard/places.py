"""The places of patterns, their ("signs", ..), numbered from 1 on, left to right.

A set of places is a whole number: its bit at a place tells whether that is in it.
The bit of place 0 stands for the beginning.
"""

BEGINNING = 1


def how_many_signs(pattern):
    """How many ("signs", ..) a pattern has."""
    if pattern[0] == "signs":
        return 1
    return sum([how_many_signs(part) for part in pattern[1:]])


def numbers_of(places):
    """The list of the numbers in a set of places, rising."""
    numbers = []
    while places:
        lowest = places & -places
        numbers.append(lowest.bit_length() - 1)
        places = places - lowest
    return numbers


class Places:
    """The places of a row of patterns.

    signs: the text of the signs of each place; behind: for each place the set of those that may
    stand behind it; ends: for each pattern the set of those behind which it may end.
    """

    def __init__(self, patterns):
        self.signs = [""]
        self.behind = [0]
        self.ends = []
        for pattern in patterns:
            spells_none, firsts, lasts = self.laid(pattern)
            self.behind[0] = self.behind[0] | firsts
            self.ends.append(lasts | BEGINNING if spells_none else lasts)

    def laid(self, pattern):
        """Numbers the places of a pattern: whether it spells no signs, its first places, its last."""
        word = pattern[0]
        if word == "signs":
            return self.laid_signs(pattern[1])
        if word == "empty":
            return True, 0, 0
        none, firsts, lasts = self.laid(pattern[1])
        if word == "maybe":
            return True, firsts, lasts
        if word == "again" or word == "more":
            self.link(lasts, firsts)
            return none or word == "again", firsts, lasts
        other_none, other_firsts, other_lasts = self.laid(pattern[2])
        if word == "or":
            return none or other_none, firsts | other_firsts, lasts | other_lasts
        self.link(lasts, other_firsts)
        if none:
            firsts = firsts | other_firsts
        if other_none:
            other_lasts = other_lasts | lasts
        return none and other_none, firsts, other_lasts

    def laid_signs(self, signs):
        place = 1 << len(self.signs)
        self.signs.append(signs)
        self.behind.append(0)
        return False, place, place

    def link(self, lasts, firsts):
        for number in numbers_of(lasts):
            self.behind[number] = self.behind[number] | firsts

    def all_behind(self, places):
        """The set of all places that may stand behind one of a set of places."""
        behind = 0
        while places:
            lowest = places & -places
            behind = behind | self.behind[lowest.bit_length() - 1]
            places = places - lowest
        return behind

    def by_signs(self):
        """A dict from all signs that some place has, in order, to the set of the places that have it."""
        by_texts = {}
        for number, signs in enumerate(self.signs):
            by_texts[signs] = by_texts.get(signs, 0) | 1 << number
        found = {}
        for signs, having in by_texts.items():
            for sign in signs:
                found[sign] = found.get(sign, 0) | having
        return {sign: found[sign] for sign in sorted(found)}

    def first_end(self, places):
        """The number of the first pattern that may end behind one of a set of places, or None."""
        for number, ends in enumerate(self.ends):
            if ends & places:
                return number
        return None
