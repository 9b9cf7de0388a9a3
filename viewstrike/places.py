"""The places of trees in papers: their struck and spared rows, worked out by the bits of integers."""


def ones_in(number):
    """Return how many bits of the integer are 1."""
    return f"{number:b}".count("1")


def numbered_bits(tables):
    """Return a list with, for each table, the list of the bits of its rows, each another one."""
    firsts = [sum([len(table) for table in tables[:t]]) for t in range(len(tables))]
    return [[1 << (first + number) for number in range(len(table))] for first, table in zip(firsts, tables)]


class Places:
    """The tables and the wanted matches of a tree, as they are seen from its places.

    A place is a triple of integers: the bits of its struck rows, those of its spared rows, and what has come of the
    struck ones so far, which the classes below tell.
    """

    def __init__(self, tables, wanted, safe):
        self.row_bits = numbered_bits(tables)
        self.wanted_rows = {match: self.bits_of(match) for match in wanted}
        self.root = (0, sum([self.row_bits[t][number] for t, number in safe]), 0)

    def bits_of(self, match):
        """Return the bits of the match's rows."""
        return sum([self.row_bits[t][number] for t, number in enumerate(match)])

    def is_wanted(self, place, match):
        """Return whether it is a wanted match none of whose rows is struck at the place."""
        return match in self.wanted_rows and self.wanted_rows[match] & place[0] == 0

    def next_match(self, place):
        """Return a wanted match without struck rows at the place, with as few rows to strike as may be, or None."""
        matches = [match for match in self.wanted_rows if self.is_wanted(place, match)]
        return max(matches, key=lambda match: ones_in(self.wanted_rows[match] & place[1]), default=None)

    def below(self, place, match):
        """Return a list with, for each table, the place where the match's row is struck, or None if it is spared."""
        struck, spared, come = place
        places = []
        for t, number in enumerate(match):
            bit = self.row_bits[t][number]
            if bit & spared == 0:
                places.append((struck | bit, spared, self.come_with(come, t, number)))
            else:
                places.append(None)
            spared = spared | bit
        return places

    def come_with(self, come, t, number):
        """Return what comes of it if this row is struck, too."""
        raise NotImplementedError()

    def strike_at(self, place):
        """Return the strike of the rows that are struck at the place."""
        pairs = []
        for t, bits in enumerate(self.row_bits):
            pairs.extend([(t, number) for number, bit in enumerate(bits) if bit & place[0] != 0])
        return tuple(pairs)
