"""What the places of strike trees do to the matches of a store, worked out by the bits of integers."""

from viewstrike.stores import groups_of

# A place is a triple of integers: the bits of its struck rows, of its spared rows, and of the matches that are struck.
ROOT = (0, 0, 0)


def number_with(bits, width):
    """Return the integer that is below 2 to the width and has 1 at these bits."""
    signs = ["0"] * (width + 1)
    for bit in bits:
        signs[width - bit] = "1"
    return int("".join(signs), 2)


def ones_in(number):
    """Return how many bits of the integer are 1."""
    return f"{number:b}".count("1")


def has_ones(number, many):
    """Return whether at least so many bits of the integer are 1."""
    for _ in range(many):
        if number == 0:
            return False
        number = number & (number - 1)
    return True


class Sight:
    """A store with wished and kept answers, as it is seen from the places of strike trees.

    Each match has a bit. Those of an answer's matches stand side by side, and above them one more, the answer's top. If
    1 is added to the struck matches at an answer's lowest bit, it carries into the top exactly if all are struck.
    """

    def __init__(self, query, store, wished, kept):
        groups = groups_of(query, store)
        lane = []
        lows = []
        self.tops = {}
        for answer in groups:
            lows.append(len(lane))
            lane.extend(groups[answer])
            self.tops[answer] = len(lane)
            lane.append(None)
        width = len(lane)
        self.lows = number_with(lows, width)
        self.kept_tops = number_with([self.tops[answer] for answer in kept], width)
        self.other_tops = number_with([self.tops[answer] for answer in self.tops if answer not in wished], width)
        self.row_bits = numbered_bits(store)
        self.row_hits = [[number_with(bits, width) for bits in table] for table in bits_by_rows(store, lane)]
        self.wished_rows = {match: self.bits_of(match) for answer in wished for match in groups[answer]}

    def bits_of(self, match):
        """Return the bits of the match's rows."""
        return sum([self.row_bits[t][number] for t, number in enumerate(match)])

    def is_wished(self, place, match):
        """Return whether it is a match of a wished answer none of whose rows is struck at the place."""
        return match in self.wished_rows and self.wished_rows[match] & place[0] == 0

    def next_match(self, place):
        """Return a wished match without struck rows at the place, with as few rows to strike as may be, or None."""
        matches = [match for match in self.wished_rows if self.is_wished(place, match)]
        return max(matches, key=lambda match: ones_in(self.wished_rows[match] & place[1]), default=None)

    def below(self, place, match):
        """Return a list with, for each table, the place where the match's row is struck, or None if it is spared."""
        struck, spared, hit = place
        places = []
        for t, number in enumerate(match):
            bit = self.row_bits[t][number]
            if bit & spared == 0:
                places.append((struck | bit, spared, hit | self.row_hits[t][number]))
            else:
                places.append(None)
            spared = spared | bit
        return places

    def struck_tops(self, place):
        """Return the tops of the answers that the rows struck at the place strike."""
        return place[2] + self.lows

    def is_end(self, place, n):
        """Return whether a strike tree for n may end at the place."""
        struck = self.struck_tops(place)
        return struck & self.kept_tops != 0 or n is not None and has_ones(struck & self.other_tops, n)

    def loss_at(self, place):
        """Return the loss of the rows struck at the place."""
        return ones_in(self.struck_tops(place) & self.other_tops)

    def answers_with(self, tops):
        """Return the ascending tuple of the answers whose tops these bits contain."""
        return tuple(sorted([answer for answer in self.tops if tops >> self.tops[answer] & 1 == 1]))

    def strike_at(self, place):
        """Return the strike of the rows struck at the place."""
        return tuple([
            (t, number)
            for t, table in enumerate(self.row_bits)
            for number, bit in enumerate(table)
            if bit & place[0] != 0
        ])


def numbered_bits(store):
    """Return a list with, for each table, the list of the bits of its rows, each another one."""
    firsts = [sum([len(table) for table in store[:t]]) for t in range(len(store))]
    return [[1 << (first + number) for number in range(len(table))] for first, table in zip(firsts, store)]


def bits_by_rows(store, lane):
    """Return a list with, for each table, the list of the lists of bits of the matches with its rows."""
    found = [[[] for _ in table] for table in store]
    for bit, match in enumerate(lane):
        if match is not None:
            for t, number in enumerate(match):
                found[t][number].append(bit)
    return found
