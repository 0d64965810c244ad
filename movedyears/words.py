"""The words that texts consist of: names, integers and conditions, read and written."""

from movedyears.errors import LineError

LETTERS = "abcdefghijklmnopqrstuvwxyz"
FIGURES = "0123456789"
SIGNS = (">=", "<")
MOST_LETTERS = 8
MOST_FIGURES = 4
MOST_TESTED = 20
MOST_AMOUNT = 1000


def consists_of(word, signs):
    """Return whether each sign of a word is one of those."""
    return all([sign in signs for sign in word])


def is_name(word):
    """Return whether a word is a name."""
    return 1 <= len(word) <= MOST_LETTERS and consists_of(word, LETTERS)


def integer_of(word):
    """Return the integer that a word writes, or None if it is not written so."""
    figures = word.removeprefix("-")
    if not 1 <= len(figures) <= MOST_FIGURES or not consists_of(figures, FIGURES):
        return None
    # This bars "-0", too.
    if figures[0] == "0" and word != "0":
        return None
    return int(word)


class Line:
    """A line of a text, whose words are taken one by one; LineError as soon as one is wrong."""

    def __init__(self, number, text):
        self.number = number
        # Only spaces part words: any other sign belongs to a word, and makes it wrong.
        self.words = [word for word in text.split(" ") if word]
        self.taken = 0

    def check(self, right):
        """Tell that the line is wrong, unless something is right."""
        if not right:
            raise LineError(self.number)

    def more(self):
        """Return whether words are left."""
        return self.taken < len(self.words)

    def finish(self):
        """Take the end of the line."""
        self.check(not self.more())

    def word(self):
        """Take the next word, whatever it is."""
        self.check(self.more())
        self.taken += 1
        return self.words[self.taken - 1]

    def skips(self, wanted):
        """Take the next word if it is the wanted one; return whether it is."""
        found = self.more() and self.words[self.taken] == wanted
        if found:
            self.taken += 1
        return found

    def literal(self, wanted):
        """Take the next word, which has to be the wanted one."""
        self.check(self.word() == wanted)

    def one_of(self, words):
        """Take the next word, which has to be one of those."""
        word = self.word()
        self.check(word in words)
        return word

    def name(self):
        """Take the next word, which has to be a name."""
        word = self.word()
        self.check(is_name(word))
        return word

    def integer(self, low, high):
        """Take the next word, which has to be an integer from low to high."""
        number = integer_of(self.word())
        self.check(number is not None and low <= number <= high)
        return number


def lines_of(text):
    """Return the lines of a text, numbered from 1."""
    return [Line(number, row) for number, row in enumerate(text.split("\n"), start=1)]


def read_test(line, names):
    """Read a test of one of the counters with these names."""
    counter = line.one_of(names)
    sign = line.one_of(SIGNS)
    return (counter, sign, line.integer(0, MOST_TESTED))


def read_condition(line, names):
    """Read the rest of a line: a condition on counters with these names, or nothing."""
    condition = []
    while line.more():
        line.literal("and" if condition else "if")
        condition.append(read_test(line, names))
    return condition


def condition_words(condition):
    """Return the words of a condition, none if it has no tests."""
    words = []
    for counter, sign, number in condition:
        words.extend(["and" if words else "if", counter, sign, str(number)])
    return words


def read_amount(line):
    """Read an amount."""
    return line.integer(-MOST_AMOUNT, MOST_AMOUNT)


def read_payment(line, names):
    """Read the rest of a line: an amount, and a condition on counters with these names."""
    amount = read_amount(line)
    return (amount, read_condition(line, names))


def payment_line(kind, payment):
    """Return the line of a payment (amount, condition), with the word of its kind ahead."""
    amount, condition = payment
    return " ".join([kind, str(amount)] + condition_words(condition))
