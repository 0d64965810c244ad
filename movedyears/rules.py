"""The rules of a scheme, and their text."""

from movedyears.words import condition_words, lines_of, payment_line, read_amount, read_condition, read_payment

MOST_FACTS = 6
MOST_COUNTERS = 3
MOST_GAINS = 20
MOST_LEAVES = 20
MOST_CAP = 20


class Rules:
    """Facts; counters (name, cap, steps); gains (amount, fact, condition); leaves (amount, condition)."""

    def __init__(self, facts, counters, gains, leaves):
        self.facts = list(facts)
        self.counters = list(counters)
        self.gains = list(gains)
        self.leaves = list(leaves)

    def names(self):
        """Return the names of the counters, in order."""
        return [counter[0] for counter in self.counters]


def counter_line(counter, facts):
    """Return the line of a counter."""
    name, cap, steps = counter
    words = ["count", name, str(cap)]
    for fact in facts:
        if fact in steps:
            words.extend([fact, str(steps[fact])])
    return " ".join(words)


def gain_line(gain):
    """Return the line of a gain."""
    amount, fact, condition = gain
    return " ".join(["gain", str(amount), fact] + condition_words(condition))


def format_rules(rules):
    """Return the text of rules."""
    lines = [" ".join(["facts"] + rules.facts)]
    lines.extend([counter_line(counter, rules.facts) for counter in rules.counters])
    lines.extend([gain_line(gain) for gain in rules.gains])
    lines.extend([payment_line("leave", leave) for leave in rules.leaves])
    return "\n".join(lines)


def read_facts(line):
    """Read the line of the facts."""
    line.literal("facts")
    facts = []
    while line.more():
        fact = line.name()
        line.check(fact not in facts)
        facts.append(fact)
    line.check(1 <= len(facts) <= MOST_FACTS)
    return facts


def read_step(line, cap):
    """Read the step of a counter with a cap for a fact."""
    if line.skips("reset"):
        return "reset"
    return line.integer(1, cap)


def read_steps(line, facts, cap):
    """Read the rest of the line of a counter with a cap: its steps, in the order of the facts."""
    steps = {}
    for fact in facts:
        if line.skips(fact):
            steps[fact] = read_step(line, cap)
    # What is left is no fact, one that stands twice, or one out of order.
    line.finish()
    return steps


def read_counter(line, rules):
    """Read the rest of the line of a counter, with the rules of the lines ahead of it."""
    line.check(len(rules.counters) < MOST_COUNTERS and not rules.gains and not rules.leaves)
    name = line.name()
    line.check(name not in rules.names())
    cap = line.integer(1, MOST_CAP)
    return (name, cap, read_steps(line, rules.facts, cap))


def read_gain(line, rules):
    """Read the rest of the line of a gain, with the rules of the lines ahead of it."""
    line.check(len(rules.gains) < MOST_GAINS and not rules.leaves)
    amount = read_amount(line)
    fact = line.one_of(rules.facts)
    return (amount, fact, read_condition(line, rules.names()))


def read_leave(line, rules):
    """Read the rest of the line of a leave, with the rules of the lines ahead of it."""
    line.check(len(rules.leaves) < MOST_LEAVES)
    return read_payment(line, rules.names())


def read_line(line, rules):
    """Read a line behind that of the facts, and add what it tells to the rules."""
    kind = line.word()
    if kind == "count":
        rules.counters.append(read_counter(line, rules))
    elif kind == "gain":
        rules.gains.append(read_gain(line, rules))
    else:
        line.check(kind == "leave")
        rules.leaves.append(read_leave(line, rules))


def parse_rules(text):
    """Return the rules that a text tells; LineError with the first wrong line."""
    lines = lines_of(text)
    rules = Rules(read_facts(lines[0]), [], [], [])
    for line in lines[1:]:
        read_line(line, rules)
    return rules
