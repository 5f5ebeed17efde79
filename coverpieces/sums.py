"""Sums by a prime: weights that show that there is no laying, or a mixture by which there are no such weights."""

from coverpieces.basics import is_whole
from coverpieces.errors import NoNumber
from coverpieces.floors import must_be, open_cells
from coverpieces.placements import placements, served_by

GREATEST_PRIME = 97


def asked_sums(puzzle):
    """How often each need is served in each laying: a cell that must be covered, a kind with bounds that are alike."""
    asked = {}
    for cell in open_cells(puzzle[0]):
        if must_be(puzzle[0], cell):
            asked[("cell", cell)] = 1
    for k, kind in enumerate(puzzle[1]):
        if kind[1] == kind[2]:
            asked[("kind", k)] = kind[1]
    return asked


def all_needs(puzzle):
    """The open cells and the kinds, in the order in which weights tell them."""
    cells = [("cell", cell) for cell in open_cells(puzzle[0])]
    return cells + [("kind", k) for k in range(len(puzzle[1]))]


def show_none(puzzle, p, weights):
    """Whether weights show by a prime that no laying keeps the puzzle."""
    if not are_weights(puzzle, p, weights):
        return False
    by_need = dict(zip(all_needs(puzzle), weights[0] + weights[1]))
    if any([weighed(by_need, placement, p) != 0 for placement in placements(puzzle)]):
        return False
    return weighed_sum(by_need, asked_sums(puzzle), p) != 0


def are_weights(puzzle, p, weights):
    """Whether weights are two lists of the told lengths, of whole numbers below a prime, 0 where no sum is asked."""
    if [len(part) for part in weights] != [len(open_cells(puzzle[0])), len(puzzle[1])]:
        return False
    if not all([is_whole(weight) and 0 <= weight < p for weight in weights[0] + weights[1]]):
        return False
    asked = asked_sums(puzzle)
    return all([weight == 0 or need in asked for need, weight in zip(all_needs(puzzle), weights[0] + weights[1])])


def weighed(by_need, placement, p):
    """The sum of the weights of what a placement serves, but for multiples of p."""
    return sum([by_need.get(need, 0) for need in served_by(placement)]) % p


def weighed_sum(by_need, asked, p):
    """The sum of the weights, each as often as its need is asked for, but for multiples of p."""
    return sum([weight * asked.get(need, 0) for need, weight in by_need.items()]) % p


def is_mixture(puzzle, p, mixture):
    """Whether a list is a mixture by a prime."""
    if not are_times(puzzle, p, mixture):
        return False
    left = asked_sums(puzzle)
    for placement, times in mixture:
        left = less_served(left, placement, times)
    return all([rest % p == 0 for rest in left.values()])


def are_times(puzzle, p, mixture):
    """Whether a list holds tuples of a placement and its times, below a prime, sorted by placements, each once."""
    if not all([is_timed(p, part) for part in mixture]):
        return False
    known = placements(puzzle)
    mixed = [placement for placement, times in mixture]
    return all([placement in known for placement in mixed]) and mixed == sorted(set(mixed))


def is_timed(p, part):
    """Whether something is a tuple of two things, the second one a number of times below a prime."""
    return isinstance(part, tuple) and len(part) == 2 and is_whole(part[1]) and 1 <= part[1] < p


def less_served(left, placement, times):
    """What is left of the asked sums where a placement serves its needs so many times."""
    rest = dict(left)
    for need in served_by(placement):
        if need in rest:
            rest[need] = rest[need] - times
    return rest


def sums(puzzle, p):
    """Weights by a prime where there are such, else a mixture; what is no such prime is refused."""
    if not is_prime(p):
        raise NoNumber("only for a prime from 2 to 97 sums are told")
    asked = asked_sums(puzzle)
    steps = []
    # Whatever weights are left sum to 0 for each placement looked at so far.
    left = [{need: 1} for need in asked]
    for placement in placements(puzzle):
        found = [by_need for by_need in left if weighed(by_need, placement, p) != 0]
        if found:
            unit = scaled(found[0], inverse(weighed(found[0], placement, p), p), p)
            steps.append((placement, unit))
            left = [lessened(by_need, unit, weighed(by_need, placement, p), p) for by_need in left]
    for by_need in left:
        if weighed_sum(by_need, asked, p) != 0:
            return ("weights", told_weights(puzzle, by_need))
    return ("mixture", mixed_by(steps, asked, p))


def is_prime(found):
    """Whether something, whatever it is, is a prime from 2 to 97."""
    if not is_whole(found) or not 2 <= found <= GREATEST_PRIME:
        return False
    return all([found % k != 0 for k in range(2, found)])


def scaled(by_need, times, p):
    """The weights, each so many times."""
    found = {}
    for need, weight in by_need.items():
        found[need] = weight * times % p
    return found


def inverse(number, p):
    """What a number that is no multiple of p is to be taken times to come to 1."""
    return [times for times in range(p) if number * times % p == 1][0]


def lessened(by_need, unit, times, p):
    """The weights less so many times the unit."""
    found = dict(by_need)
    for need, weight in unit.items():
        found[need] = (found.get(need, 0) - weight * times) % p
    return found


def told_weights(puzzle, by_need):
    """The weights as lists, for the cells and for the kinds."""
    weights = [by_need.get(need, 0) for need in all_needs(puzzle)]
    many = len(open_cells(puzzle[0]))
    return (weights[:many], weights[many:])


def mixed_by(steps, asked, p):
    """The mixture of the steps' placements that comes to the asked sums."""
    mixture = []
    left = asked
    # A step's unit sums to 1 for its own placement and to 0 for those of the steps ahead, so the last step goes first.
    for placement, unit in reversed(steps):
        times = weighed_sum(unit, left, p)
        if times != 0:
            mixture.append((placement, times))
            left = less_served(left, placement, times)
    return sorted(mixture)
