"""The table of what is half laid, and the count of a puzzle's layings that it shows."""

from coverpieces.states import Ground, begin, behind_on, ends_well, options_among, starting_options, undecided_cells


def table(puzzle):
    """Each state that can be come to, as a row: the state, its choices with their rows' numbers, its count."""
    ground = Ground(puzzle)
    starts = starting_options(puzzle)
    steps = steps_by_state(puzzle, lambda state: steps_of(ground, starts, state))
    counts = counts_by_state(puzzle, steps)
    numbers = {}
    for number, state in enumerate(steps):
        numbers[state] = number
    return [(state, numbered_choices(steps[state], numbers), counts[state]) for state in steps]


def steps_of(ground, starts, state):
    """The options of a state, each with the state behind it."""
    return [(option, behind_on(ground, state, option)) for option in options_among(ground, starts, state)]


def steps_by_state(puzzle, told_steps):
    """For each state that can be come to by the steps that a function tells of each state, these steps.

    The states stand in such an order that those behind a state come later.
    """
    found = {}
    waiting = [begin(puzzle)]
    while waiting:
        state = waiting.pop()
        if state not in found:
            found[state] = told_steps(state)
            waiting.extend([after for step, after in found[state]])
    # Each step decides a cell at least.
    return dict([(state, found[state]) for state in sorted(found, key=undecided_cells, reverse=True)])


def counts_by_state(puzzle, steps):
    """For each state how many ways lead from it to an end that is well."""
    counts = {}
    for state in reversed(list(steps)):
        # An ended state has no steps, so another end sums to 0.
        counts[state] = 1 if ends_well(puzzle, state) else sum([counts[after] for step, after in steps[state]])
    return counts


def numbered_choices(steps, numbers):
    """The options of a state, each with the number of the row of the state behind it."""
    return [(option, numbers[after]) for option, after in steps]


def count(puzzle):
    """How many layings keep a puzzle."""
    return table(puzzle)[0][2]
