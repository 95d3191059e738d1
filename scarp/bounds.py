"""The bound of a table: how many levels are enough for each log."""

from scarp.errors import BadPaper, NotAllowed
from scarp.green import all_above, both_class_of, both_classes, groups


def own_number(table, element):
    """The own number of an element."""
    return _number_of_class(both_class_of(table, element), _in_groups(table))


def _in_groups(table):
    """A dict whose keys are the elements that lie in a group."""
    found = {}
    for _, group in groups(table):
        for element in group:
            found[element] = True
    return found


def _number_of_class(members, grouped):
    """The own number of the elements of a both class."""
    return max(1, len([element for element in members if element in grouped]))


def _own_numbers(table):
    """The list of the own numbers of all elements."""
    grouped = _in_groups(table)
    numbers = {}
    for members in both_classes(table):
        for element in members:
            numbers[element] = _number_of_class(members, grouped)
    return [numbers[element] for element in range(len(table[2]))]


def _best_chains(table):
    """For each element the greatest sum of a chain that ends at it, and such a chain."""
    owns = _own_numbers(table)
    higher = all_above(table)
    chains = {}
    # What is above an element has fewer elements above it, so its chain is there already.
    for _, element in sorted([(len(higher[element]), element) for element in range(len(owns))]):
        best = (0, ())
        for other in higher[element]:
            best = _better(best, chains[other])
        chains[element] = (best[0] + owns[element], best[1] + (element,))
    return [chains[element] for element in range(len(owns))]


def _better(first, second):
    """The one of two pairs that has the greater sum, the first one if it is the same."""
    return second if second[0] > first[0] else first


def bound_of(table):
    """The bound of a table, and a chain with this sum."""
    best = (0, ())
    for pair in _best_chains(table):
        best = _better(best, pair)
    return best


def weights_of(table):
    """The least weights of a table."""
    return tuple([total for total, _ in _best_chains(table)])


def judge_bound(table, number, chain, weights):
    """Raise BadPaper if the chain and the weights do not show that this number is the bound."""
    many = len(table[2])
    for element in chain:
        if not 0 <= element < many:
            raise NotAllowed("the chain has a number that is no element")
    if len(weights) != many:
        raise NotAllowed("there is not one weight for each element")
    owns = _own_numbers(table)
    higher = all_above(table)
    if len(chain) == 0 or sum([owns[element] for element in chain]) != number:
        raise BadPaper("the chain does not have this sum")
    for at in range(1, len(chain)):
        if chain[at - 1] not in higher[chain[at]]:
            raise BadPaper("an element of the chain is not above the next one")
    for element in range(many):
        if weights[element] < owns[element] + max([0] + [weights[other] for other in higher[element]]):
            raise BadPaper("a weight is too small")
    if max(weights) != number:
        raise BadPaper("the greatest weight is another number")
