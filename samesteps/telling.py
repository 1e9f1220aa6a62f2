"""Sayings that tell two rooms apart."""

from samesteps.nets import check_rooms, leads_of
from samesteps.rounds import first_parting, rounds_of


class Teller:
    """Writes rows that tell rooms of one net apart."""

    # Of each two rooms, in either order, is written once and in two rows at most. Thirty rooms need
    # 30 * 29 * 2 rows at most, so a saying keeps within its 2000, however many rounds it goes down.

    def __init__(self, net):
        self.leads = leads_of(net)
        self.told = rounds_of(net)
        self.rows = []
        self.places = {}
        self.known = {}

    def written(self, row):
        """The number of the row, which is written unless it stands there."""
        if row not in self.places:
            self.places[row] = len(self.rows)
            self.rows.append(row)
        return self.places[row]

    def all_of(self, numbers):
        """The number of a row that is so where all of these are."""
        if len(numbers) == 1:
            return numbers[0]
        return self.written(("and", tuple(numbers)))

    def row_for(self, one, other):
        """A row that is so of the first room and not of the second one."""
        ahead = self.told[first_parting(self.told, one, other) - 1]
        for mark, end in self.leads[one]:
            rivals = [far for by, far in self.leads[other] if by == mark]
            if ahead[end] not in [ahead[far] for far in rivals]:
                numbers = [self.number_for(end, far) for far in rivals]
                return "may", mark, self.all_of(sorted(set(numbers)))
        # No step of the first room parts them, so a step of the second one does.
        return "not", self.number_for(other, one)

    def number_for(self, one, other):
        """The number of a row that is so of the first room and not of the second one."""
        if (one, other) not in self.known:
            self.known[(one, other)] = self.written(self.row_for(one, other))
        return self.known[(one, other)]


def saying_for(net, one, other):
    """A saying that is so of the first room and not of the second one, None of alike ones."""
    check_rooms(net, one, other)
    teller = Teller(net)
    if first_parting(teller.told, one, other) is None:
        return None
    # All other rows are written for the one asked for and ahead of it, so it stands last.
    teller.number_for(one, other)
    return teller.rows
