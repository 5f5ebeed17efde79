"""The table of what is half laid, and the count of a puzzle's layings that it shows."""

from coverpieces.states import Ground, begin, behind_on, ends_well, options_among, starting_options, undecided_cells


def table(puzzle):
    """Each state that can be come to, as a row: the state, its choices with their rows' numbers, its count."""
    steps = steps_by_state(puzzle)
    # Each option decides a cell, so what lies behind a state comes later.
    states = sorted(steps, key=undecided_cells, reverse=True)
    counts = counts_by_state(puzzle, states, steps)
    numbers = {}
    for number, state in enumerate(states):
        numbers[state] = number
    return [(state, numbered_choices(steps[state], numbers), counts[state]) for state in states]


def steps_by_state(puzzle):
    """For each state that can be come to its options, each with the state behind it."""
    ground = Ground(puzzle)
    starts = starting_options(puzzle)
    steps = {}
    waiting = [begin(puzzle)]
    while waiting:
        state = waiting.pop()
        if state not in steps:
            found = options_among(ground, starts, state)
            steps[state] = [(option, behind_on(ground, state, option)) for option in found]
            waiting.extend([after for option, after in steps[state]])
    return steps


def counts_by_state(puzzle, states, steps):
    """For each state how many ways lead from it to an end that is well."""
    counts = {}
    for state in reversed(states):
        # An ended state has no steps, so another end sums to 0.
        counts[state] = 1 if ends_well(puzzle, state) else sum([counts[after] for option, after in steps[state]])
    return counts


def numbered_choices(steps, numbers):
    """The options of a state, each with the number of the row of the state behind it."""
    return [(option, numbers[after]) for option, after in steps]


def count(puzzle):
    """How many layings keep a puzzle."""
    return table(puzzle)[0][2]
