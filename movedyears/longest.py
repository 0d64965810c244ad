"""The greatest sums over all careers from pairs on, and the lengths of careers that have them."""


def later_ones_first(pairs):
    """Return all places, in an order in which those that a place leads to stand ahead of it, but for rings."""
    order = []
    entered = [False] * pairs.many()
    for begin in range(pairs.many()):
        waiting = [(begin, False)]
        while waiting:
            place, left = waiting.pop()
            if left:
                order.append(place)
            elif not entered[place]:
                entered[place] = True
                waiting.append((place, True))
                waiting.extend([(following, False) for following in pairs.step[place].values()])
    return order


class Climb:
    """Sums of careers from each pair on, with their first facts, which are raised until none can be."""

    def __init__(self, pairs):
        self.pairs = pairs
        # Sums that are raised ahead of those that stand on them need few rounds.
        self.order = later_ones_first(pairs)
        self.sums = list(pairs.end)
        self.firsts = [None] * pairs.many()
        self.ring = None
        while self.raise_all():
            self.end_rings()

    def raise_all(self):
        """Raise each sum by one more year, where that helps; return whether it did anywhere."""
        helped = False
        for place in self.order:
            if self.raise_at(place):
                helped = True
        return helped

    def raise_at(self, place):
        """Raise the sum of a place by one more year, where that helps; return whether it did."""
        before = self.sums[place]
        if before is None:
            return False
        for fact in self.pairs.facts:
            rest = self.sums[self.pairs.step[place][fact]]
            if rest is None:
                self.let_grow(place)
                return True
            if self.pairs.gain[place][fact] + rest > self.sums[place]:
                self.sums[place] = self.pairs.gain[place][fact] + rest
                self.firsts[place] = fact
        return self.sums[place] > before

    def let_grow(self, place):
        """Let the sum of a place grow without end."""
        self.sums[place] = None
        self.firsts[place] = None

    def following(self, place):
        """Return the place behind the first year of the career of a place, or None if that is empty."""
        fact = self.firsts[place]
        return None if fact is None else self.pairs.step[place][fact]

    def end_rings(self):
        """Find all places whose careers lead round: they do so only if that raises their sums each time."""
        found_by = [None] * self.pairs.many()
        for begin in range(self.pairs.many()):
            place = begin
            while place is not None and found_by[place] is None:
                found_by[place] = begin
                place = self.following(place)
            if place is not None and found_by[place] == begin:
                self.end_ring(place)

    def end_ring(self, begin):
        """Let the sums on a ring grow without end, and keep the first ring that is found."""
        career = []
        place = begin
        while self.firsts[place] is not None:
            career.append(self.firsts[place])
            following = self.following(place)
            self.let_grow(place)
            place = following
        if self.ring is None:
            self.ring = (begin, career)


def greatest_sums(pairs):
    """Return, by pairs, the greatest sum over all careers from each on, or None if it grows without end."""
    return Climb(pairs).sums


def ring_above_nought(pairs):
    """Return a place and a career that leads back to it with a gain above 0, or None if there is none."""
    return Climb(pairs).ring


def keeps_best(pairs, values, place, fact):
    """Return whether a year with a fact is the first one of a career that has the greatest sum."""
    rest = values[pairs.step[place][fact]]
    if values[place] is None or rest is None:
        return False
    return values[place] == pairs.gain[place][fact] + rest


def lengths(pairs, values):
    """Return, by pairs, the length of the shortest career that has the greatest sum, or None."""
    sources = [[] for _ in values]
    for place in range(pairs.many()):
        for fact in pairs.facts:
            if keeps_best(pairs, values, place, fact):
                sources[pairs.step[place][fact]].append(place)
    met = [place for place in range(pairs.many()) if values[place] == pairs.end[place]]
    found = [0 if values[place] == pairs.end[place] else None for place in range(pairs.many())]
    looked = 0
    while looked < len(met):
        behind = met[looked]
        for place in sources[behind]:
            if found[place] is None:
                found[place] = found[behind] + 1
                met.append(place)
        looked += 1
    return found


def next_of_best(pairs, values, found, place):
    """Return the first fact with which one of the shortest careers that have the greatest sum begins."""
    best = [fact for fact in pairs.facts if keeps_best(pairs, values, place, fact)]
    return [fact for fact in best if found[pairs.step[place][fact]] == found[place] - 1][0]


def best_career(pairs, values, found, place):
    """Return the first shortest career from a pair on that has the greatest sum, with the lengths found."""
    career = []
    while found[place] > 0:
        fact = next_of_best(pairs, values, found, place)
        career.append(fact)
        place = pairs.step[place][fact]
    return career
