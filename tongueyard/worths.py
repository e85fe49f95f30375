"""Worths of trees, and on what each of them hangs."""

from tongueyard.errors import NoWorth
from tongueyard.instances import behind_order, reckoned_tree
from tongueyard.trees import numbered


def worths(grammar, tally, tree, *, given=()):
    """The list of (node, attribute, worth) of a tree."""
    return reckoned_tree(grammar, tally, numbered(grammar, tree), given).rows_told()


def why(grammar, tally, tree, node, attribute, *, given=()):
    """The list of such rows of an instance and of all on which it hangs, each behind all on which it hangs."""
    reckoned = reckoned_tree(grammar, tally, numbered(grammar, tree), given)
    behind = all_behind(reckoned, node, attribute)
    return [(at, name, reckoned.found[(at, name)]) for at, name in behind]


def hangs_on(grammar, tally, tree, node, attribute, *, given=()):
    """The numbers of the words, and the top's downs, on which an instance hangs."""
    reckoned = reckoned_tree(grammar, tally, numbered(grammar, tree), given)
    behind = all_behind(reckoned, node, attribute)
    words = sorted(set([number for one in behind for number in reckoned.instances.words_read(one)]))
    downs = [name for at, name in reckoned.instances.order
             if reckoned.instances.is_given((at, name)) and (at, name) in behind]
    return words, downs


def all_behind(reckoned, node, attribute):
    """An instance and all on which it hangs, each behind all on which it hangs; refuses what is no instance."""
    if (node, attribute) not in reckoned.found:
        raise NoWorth(node, attribute)
    return behind_order([(node, attribute)], reckoned.links)
