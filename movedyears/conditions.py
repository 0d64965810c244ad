"""Tests and conditions on the values of counters."""


def passes(test, counts):
    """Return whether a test (counter, sign, number) holds for the values of the counters."""
    counter, sign, number = test
    if sign == ">=":
        return counts[counter] >= number
    return counts[counter] < number


def holds(condition, counts):
    """Return whether all tests of a condition hold for the values of the counters."""
    return all([passes(test, counts) for test in condition])
