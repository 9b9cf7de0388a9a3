"""What strikes cost, as it is seen from the places of price trees."""

from viewstrike.places import Places
from viewstrike.trees import rows_of


class Till(Places):
    """The wanted matches and the safe rows of a price tree beside prices; what comes of struck rows is their price."""

    def __init__(self, prices, wanted, safe):
        Places.__init__(self, prices, wanted, safe)
        self.prices = prices

    def come_with(self, come, t, number):
        """Return the price of the struck rows if this row is struck, too."""
        return come + self.prices[t][number]

    def is_end(self, place, n):
        """Return whether a price tree for n may end at the place."""
        return n is not None and place[2] >= n

    def cost_at(self, place):
        """Return the price of the rows struck at the place."""
        return place[2]


def lot_tills(store, matches, place):
    """Return a list with a till for each of an answer's matches with the row at this place, in ascending order.

    It wants the matches without the row, its own match is safe, and each row has the price 1: what it costs to strike
    all of the wanted ones is the size of a least lot that leaves its own match in the store.
    """
    t, number = place
    ones = [[1 for _ in table] for table in store]
    others = [match for match in matches if match[t] != number]
    return [Till(ones, others, rows_of(match)) for match in matches if match[t] == number]
