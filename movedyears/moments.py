"""When to move: the best year of a career, what one can be sure of, and the best mean."""

from math import gcd

from movedyears.runs import states_along


def keep_best(best, state, told):
    """Keep what is told of a state, (amount, -year of moving), if it is more, or as much by an earlier year."""
    best[state] = max(best.get(state, told), told)


def year_behind(other, best, fact):
    """Return what is best, by states of the second machine, behind one more year."""
    behind = {}
    for state, (amount, less_year) in best.items():
        keep_best(behind, other.step[state][fact], (amount + other.gain[state][fact], less_year))
    return behind


def best_year(machine, other, carry, career):
    """Return the most that a career gives, and the first year of moving that gives it, or None if staying does."""
    gained = 0
    states = states_along(machine, 0, career)
    # All who moved and have met at a state get the same from there on: the best one of them is enough.
    best = {}
    for year, state in enumerate(states):
        keep_best(best, carry.to[state], (gained - carry.cost[state], -year))
        if year < len(career):
            best = year_behind(other, best, career[year])
            gained += machine.gain[state][career[year]]
    staying = gained + machine.leave[states[-1]]
    left = [(amount + other.leave[place], less_year) for place, (amount, less_year) in best.items()]
    moving, less_year = max(left)
    return (moving, -less_year) if moving > staying else (staying, None)


def worst_behind(machine, sums):
    """Return, by states, the least that a year and these sums behind it can give."""
    least = []
    for gain, step in zip(machine.gain, machine.step):
        least.append(min([gain[fact] + sums[step[fact]] for fact in machine.facts]))
    return least


def worst_sums(machine, years):
    """Return, by states, the least that so many years and leaving behind them can give."""
    sums = list(machine.leave)
    for _ in range(years):
        sums = worst_behind(machine, sums)
    return sums


def all_odds(machine, odds):
    """Return the sum of the odds."""
    return sum([odds[fact] for fact in machine.facts])


def power_of(number, exponent):
    """Return the power of a number."""
    power = 1
    for _ in range(exponent):
        power = power * number
    return power


def mean_behind(machine, odds, sums, scale):
    """Return, by states, the mean of a year and these sums behind it, times the sum of the odds.

    The sums are told times the scale, and so is the mean.
    """
    means = []
    for gain, step in zip(machine.gain, machine.step):
        means.append(sum([odds[fact] * (scale * gain[fact] + sums[step[fact]]) for fact in machine.facts]))
    return means


def mean_sums(machine, odds, years):
    """Return, by states, the mean of so many years and leaving, times the sum of the odds to their power."""
    sums = list(machine.leave)
    scale = 1
    for _ in range(years):
        sums = mean_behind(machine, odds, sums, scale)
        scale = scale * all_odds(machine, odds)
    return sums


def chosen(carry, staying, moving, scale):
    """Return, by states, the better one of staying and moving for its cost times the scale, and whether to move."""
    row = []
    for state, stays in enumerate(staying):
        moves = moving[carry.to[state]] - scale * carry.cost[state]
        row.append((max(stays, moves), moves > stays))
    return row


def amounts(row):
    """Return the amounts of a row, without whether to move."""
    return [amount for amount, _ in row]


def guaranteed(machine, other, carry, years):
    """Return rows by years left: by states, the most that one can be sure of, and whether to move."""
    moving = list(other.leave)
    rows = [chosen(carry, machine.leave, moving, 1)]
    for _ in range(years):
        moving = worst_behind(other, moving)
        rows.append(chosen(carry, worst_behind(machine, amounts(rows[-1])), moving, 1))
    return rows


def expected(machine, other, carry, odds, years):
    """Return rows by years left: by states, the best mean times the odds' power, and whether to move."""
    moving = list(other.leave)
    rows = [chosen(carry, machine.leave, moving, 1)]
    scale = 1
    for _ in range(years):
        staying = mean_behind(machine, odds, amounts(rows[-1]), scale)
        moving = mean_behind(other, odds, moving, scale)
        scale = scale * all_odds(machine, odds)
        rows.append(chosen(carry, staying, moving, scale))
    return rows


def common_divisor(first, second):
    """Return the greatest common divisor of two integers, at least 0."""
    return gcd(first, second)


def mean_of(machine, other, carry, odds, years):
    """Return the best mean of so many years from state 0, as (numerator, denominator) in lowest terms."""
    mean, _ = expected(machine, other, carry, odds, years)[years][0]
    scale = power_of(all_odds(machine, odds), years)
    divisor = common_divisor(mean, scale)
    return mean // divisor, scale // divisor
