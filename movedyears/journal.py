"""A journal of deeds on a device that may lose its power, and recovering the deeds."""

from movedyears.accounts import Account
from movedyears.errors import PowerCut, ShutError
from movedyears.words import LETTERS, is_name

YEAR = 1
MOVE = 2
UNDO = 3
LAST = 170
FIRST_LETTER = 97
# The octets of a record ahead of its body and behind it.
AROUND = 3


def body_of(deed):
    """Return the octets of the body of a deed's record."""
    if deed[0] == "year":
        return [YEAR] + [ord(letter) for letter in deed[1]]
    if deed[0] == "move":
        return [MOVE, deed[1]]
    return [UNDO]


def check_sum(body):
    """Return the octet that stands behind a body as its sum."""
    return sum(body) % 256


def record_of(deed):
    """Return the record of a deed, a list of octets."""
    body = body_of(deed)
    return [len(body)] + body + [check_sum(body), LAST]


def fact_of(octets):
    """Return the fact that octets write, or None if they write no name."""
    places = [octet - FIRST_LETTER for octet in octets]
    if not all([0 <= place < len(LETTERS) for place in places]):
        return None
    fact = "".join([LETTERS[place] for place in places])
    return fact if is_name(fact) else None


def deed_of(body):
    """Return the deed that a body tells, or None if it tells none."""
    if body[:1] == [YEAR]:
        fact = fact_of(body[1:])
        return None if fact is None else ("year", fact)
    if body[:1] == [MOVE] and len(body) == 2:
        return ("move", body[1])
    return ("undo",) if body == [UNDO] else None


def deed_at(octets, begin):
    """Return the deed of the record that begins at a place, or None if it is not whole."""
    if begin >= len(octets):
        return None
    end = begin + 1 + octets[begin]
    body = octets[begin + 1:end]
    if octets[end:end + 2] != [check_sum(body), LAST]:
        return None
    return deed_of(body)


def recovered(octets):
    """Return the deeds of the whole records from the beginning on, and how many octets these take."""
    deeds = []
    taken = 0
    deed = deed_at(octets, taken)
    while deed is not None:
        deeds.append(deed)
        taken += octets[taken] + AROUND
        deed = deed_at(octets, taken)
    return deeds, taken


class Device:
    """A device that appends octets until its power is gone."""

    def __init__(self, octets, power):
        self.octets = list(octets)
        self.power = power

    def append(self, octet):
        """Append an octet; raises PowerCut."""
        if self.power <= 0:
            raise PowerCut(len(self.octets))
        self.octets.append(octet)
        self.power -= 1


def done(account, deed):
    """Do a deed in an account, and return what the account's method returns."""
    if deed[0] == "year":
        return account.year(deed[1])
    if deed[0] == "move":
        return account.move(deed[1])
    return account.undo()


class JournaledAccount:
    """An account whose deeds are written on a device as they are done."""

    def __init__(self, account, device):
        self.account = account
        self.device = device
        self.shut = False

    def perform(self, deed):
        """Do a deed and write its record; raises PowerCut, ShutError, and what the account's method raises."""
        if self.shut:
            raise ShutError()
        told = done(self.account, deed)
        # Undoing without a deed did nothing, so there is nothing to write.
        if deed[0] != "undo" or told:
            self.write(record_of(deed))
        return told

    def write(self, record):
        """Write a record octet by octet; without power it is shut from then on."""
        try:
            for octet in record:
                self.device.append(octet)
        except PowerCut:
            self.shut = True
            raise


def opened(schemes, carries, octets, power):
    """Return the journaled account of the octets of a device, whose rest is cut off."""
    deeds, taken = recovered(octets)
    account = Account(schemes, carries)
    for deed in deeds:
        done(account, deed)
    return JournaledAccount(account, Device(octets[:taken], power))
