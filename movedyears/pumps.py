"""Several schemes with carries between them: rings of moves that pay without any work, and papers against them."""

from movedyears.carrying import carry_between
from movedyears.longest import greatest_sums


def spots(schemes):
    """Return all spots (scheme, state), ascending."""
    return [(scheme, state) for scheme, machine in enumerate(schemes) for state in range(machine.many())]


def pays(schemes, carries, spot, ring):
    """Return what a row of moves from a spot pays, and the spot it leads to; raises NoCarry."""
    paid = 0
    for other in ring:
        scheme, state = spot
        carry = carry_between(carries, scheme, other)
        paid -= carry.cost[state]
        spot = (other, carry.to[state])
    return paid, spot


def moves_by_spots(schemes, carries):
    """Return, by spots, ascending, all moves from there: (other scheme, what it pays, the spot it leads to)."""
    moves = {}
    for spot in spots(schemes):
        moves[spot] = []
        for other in range(len(schemes)):
            if (spot[0], other) in carries:
                paid, behind = pays(schemes, carries, spot, [other])
                moves[spot].append((other, paid, behind))
    return moves


class MovePairs:
    """All spots and moves in the form of Pairs and years, with the numbers of the schemes as facts."""

    def __init__(self, schemes, moves):
        self.facts = list(range(len(schemes)))
        self.end = [0] * len(moves)
        self.step = []
        self.gain = []
        places = {spot: place for place, spot in enumerate(moves)}
        for place, leading in enumerate(moves.values()):
            # Where there is no move, a year goes round at the spot for nothing: that is never more than to end there.
            step = {other: place for other in self.facts}
            gain = {other: 0 for other in self.facts}
            for other, paid, behind in leading:
                step[other] = places[behind]
                gain[other] = paid
            self.step.append(step)
            self.gain.append(gain)

    def many(self):
        """Return the number of spots."""
        return len(self.end)


def most_by_spots(schemes, moves):
    """Return, by spots, ascending, the most that moves from there pay, or None if it grows without end."""
    return dict(zip(moves, greatest_sums(MovePairs(schemes, moves))))


def pump_paper(schemes, carries):
    """Return the paper against pumps, or None if there is a pump."""
    most = most_by_spots(schemes, moves_by_spots(schemes, carries))
    return None if None in list(most.values()) else list(most.items())


def best_moves(schemes, carries, spot):
    """Return the most that moves from a spot pay, or None if there is a pump anywhere."""
    most = most_by_spots(schemes, moves_by_spots(schemes, carries))
    return None if None in list(most.values()) else most[spot]


def one_more(moves, rows):
    """Return rows with one more move, by the spots they lead to: those that pay most.

    A row is a tuple of what it pays and its moves, these as a trail: (the trail ahead, the last scheme).
    """
    found = {}
    for spot, (paid, trail) in rows.items():
        for other, more, behind in moves[spot]:
            if behind not in found or paid + more > found[behind][0]:
                found[behind] = (paid + more, (trail, other))
    return found


def schemes_of(trail):
    """Return the numbers of the schemes of a trail of moves, in order."""
    ring = []
    while trail is not None:
        trail, other = trail
        ring.append(other)
    return ring[::-1]


def first_pump(moves):
    """Return a pump with the fewest moves, from the first spot that has one with so few; there has to be one."""
    rows = {spot: {spot: (0, None)} for spot in moves}
    while True:
        for spot in moves:
            rows[spot] = one_more(moves, rows[spot])
            paid, trail = rows[spot].get(spot, (0, None))
            if paid > 0:
                return spot, schemes_of(trail)


def pump(schemes, carries):
    """Return a pump with the fewest moves, from the first spot that has one with so few, or None."""
    moves = moves_by_spots(schemes, carries)
    most = most_by_spots(schemes, moves)
    # From each spot of a pump sums grow without end, so no other ones need to be looked at.
    endless = [spot for spot in moves if most[spot] is None]
    if not endless:
        return None
    return first_pump({
        spot: [(other, paid, behind) for other, paid, behind in moves[spot] if most[behind] is None]
        for spot in endless
    })


def verify_no_pump(schemes, carries, paper):
    """Return whether a paper against pumps is right."""
    moves = moves_by_spots(schemes, carries)
    numbers = {}
    for spot, number in paper:
        if spot in numbers or spot not in moves:
            return False
        numbers[spot] = number
    if len(numbers) < len(moves):
        return False
    return all([numbers[spot] >= paid + numbers[behind] for spot in moves for _, paid, behind in moves[spot]])
