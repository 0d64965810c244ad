"""Words that make lines wrong, for several tests."""

WRONG_NAMES = [
    "A", "aB", "a1", "1", "a_b", "a-b", "a.b", "abcdefghi", "\t", "a\t", "\ta", "a\r", "\u00e9", "\u00df",
    "\u0430", "a\u00a0b", "\u00a0", "a,", '"a"', "a\x0bb", "a\x0c", "a\x85b", "a\u2028b", "\x00", "`", "{", "@",
]

WRONG_NUMBERS = [
    "x", "-", "--1", "+1", "+0", "1-", "1.0", "1e1", "0x1", "1_0", "01", "007", "00", "-0", "-00", "-01", "0001",
    "00001", "10000", "-10000", "12345", "99999", "9" * 5000, "\u0661", "\u00b2", "\uff11", "1\t", "\t1", "1\r",
    "1,", "1\u00a0", "\u00bd", "0 0", "- 1",
]


def wrong_amounts():
    """Return words that are no amounts."""
    return WRONG_NUMBERS + ["1001", "-1001", "2000", "9999", "-9999", "a", "reset", "if"]


def wrong_conditions():
    """Return what can't follow behind a gain or leave."""
    tests = ["", "c", "c <", "c >=", "c 1", "< 1", "c < 1 and", "c < 1 c < 1", "and"]
    tests += ["and c < 1", "c < 1 and and c < 1"]
    signs = (">", "<=", "==", "=", "!=", "=>", ">>", "<<", "is", "> =", "\u2265", "<\t")
    tests += ["c " + sign + " 1" for sign in signs]
    tests += ["c < " + number for number in WRONG_NUMBERS + ["21", "-1", "-20", "100", "a", "c", "reset"]]
    tests += ["c >= 21", "c >= -1", "c >= -0", "c>=1", "c >=1", "c>= 1", "c<1", "c < 1, d < 1", "not c < 1"]
    tests += ["e < 1", "a < 1", "C < 1", "cc < 1", "1 < c", "c < 1 or d < 1", "c < 1 And d < 1", "c < 1 if d < 1"]
    tests += ["c < 1 and e < 1", "c < 1 and d", "c < 1 and d < 21", "c < 1 and d <= 1", "if c < 1", "c < 1 d"]
    ends = ["c < 1", "and c < 1", "If c < 1", "IF c < 1", "when c < 1", "\tif c < 1", "if\tc < 1", "x", "1", "if,"]
    return ends + ["if " + test for test in tests]
