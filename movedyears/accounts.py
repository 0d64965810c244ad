"""Accounts of members: years, moves, and undoing them."""

from movedyears.carrying import carry_between
from movedyears.runs import check_facts


class Account:
    """An account of a member, in one of several schemes with carries between them."""

    def __init__(self, schemes, carries):
        self.schemes = schemes
        self.carries = carries
        self.deeds = []
        # Where the account was ahead of each deed, and where it is: (scheme, state, paid).
        self.stands = [(0, 0, 0)]

    def scheme(self):
        """Return the number of the scheme."""
        return self.stands[-1][0]

    def state(self):
        """Return the state in the scheme's machine."""
        return self.stands[-1][1]

    def paid(self):
        """Return what was paid so far."""
        return self.stands[-1][2]

    def worth(self):
        """Return what was paid so far and is paid on leaving now."""
        return self.paid() + self.schemes[self.scheme()].leave[self.state()]

    def year(self, fact):
        """Go on by a year, and return its gain; raises UnknownFact."""
        machine = self.schemes[self.scheme()]
        check_facts(machine, [fact])
        gain = machine.gain[self.state()][fact]
        self.deeds.append(("year", fact))
        self.stands.append((self.scheme(), machine.step[self.state()][fact], self.paid() + gain))
        return gain

    def move(self, other):
        """Move to another scheme, and return the cost; raises NoCarry."""
        carry = carry_between(self.carries, self.scheme(), other)
        cost = carry.cost[self.state()]
        self.deeds.append(("move", other))
        self.stands.append((other, carry.to[self.state()], self.paid() - cost))
        return cost

    def undo(self):
        """Undo the last deed; return whether there was one."""
        if not self.deeds:
            return False
        self.deeds.pop()
        self.stands.pop()
        return True

    def branch(self):
        """Return an account of its own with the same deeds."""
        account = Account(self.schemes, self.carries)
        account.deeds.extend(self.deeds)
        account.stands = list(self.stands)
        return account
