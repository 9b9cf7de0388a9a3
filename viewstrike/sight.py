"""What the places of strike trees do to the answers of a store, worked out by the bits of integers."""

from viewstrike.places import Places, ones_in
from viewstrike.stores import groups_of


def number_with(bits, width):
    """Return the integer that is below 2 to the width and has 1 at these bits."""
    signs = ["0"] * (width + 1)
    for bit in bits:
        signs[width - bit] = "1"
    return int("".join(signs), 2)


def has_ones(number, many):
    """Return whether at least so many bits of the integer are 1."""
    for _ in range(many):
        if number == 0:
            return False
        number = number & (number - 1)
    return True


class Sight(Places):
    """A store with wished and kept answers, as it is seen from the places of strike trees.

    Each match has a bit. Those of an answer's matches stand side by side, and above them one more, the answer's top. If
    1 is added to the struck matches at an answer's lowest bit, it carries into the top exactly if all are struck. What
    has come of the struck rows of a place are the bits of the struck matches.
    """

    def __init__(self, query, store, wished, kept):
        groups = groups_of(query, store)
        Places.__init__(self, store, [match for answer in wished for match in groups[answer]], ())
        lane = []
        lows = []
        self.tops = {}
        for answer in groups:
            lows.append(len(lane))
            lane.extend(groups[answer])
            self.tops[answer] = len(lane)
            lane.append(None)
        width = len(lane)
        self.lows = number_with(lows, width)
        self.kept_tops = number_with([self.tops[answer] for answer in kept], width)
        self.other_tops = number_with([self.tops[answer] for answer in self.tops if answer not in wished], width)
        self.row_hits = [[number_with(bits, width) for bits in table] for table in bits_by_rows(store, lane)]

    def come_with(self, come, t, number):
        """Return the bits of the struck matches if this row is struck, too."""
        return come | self.row_hits[t][number]

    def struck_tops(self, place):
        """Return the tops of the answers that the rows struck at the place strike."""
        return place[2] + self.lows

    def is_end(self, place, n):
        """Return whether a strike tree for n may end at the place."""
        struck = self.struck_tops(place)
        return struck & self.kept_tops != 0 or n is not None and has_ones(struck & self.other_tops, n)

    def cost_at(self, place):
        """Return the loss of the rows struck at the place."""
        return ones_in(self.struck_tops(place) & self.other_tops)

    def answers_with(self, tops):
        """Return the ascending tuple of the answers whose tops these bits contain."""
        return tuple(sorted([answer for answer in self.tops if tops >> self.tops[answer] & 1 == 1]))


def bits_by_rows(store, lane):
    """Return a list with, for each table, the list of the lists of bits of the matches with its rows."""
    found = [[[] for _ in table] for table in store]
    for bit, match in enumerate(lane):
        if match is not None:
            for t, number in enumerate(match):
                found[t][number].append(bit)
    return found
