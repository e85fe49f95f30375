"""The judge of all papers. It is told what they say and looks whether it is so, whoever made them."""

from tongueyard.judge_bridges import led_holds
from tongueyard.judge_facts import facts_hold, one_holds
from tongueyard.judge_known import known_holds
from tongueyard.judge_mends import mends_hold
from tongueyard.judge_rows import CleanRows, are_texts, is_number_to, is_tuple_of_rows
from tongueyard.judge_tables import table_holds
from tongueyard.judge_words import words_hold
from tongueyard.judge_worths import worths_hold
from tongueyard.logs import alike_words, log_of
from tongueyard.things import is_row_of, is_whole
from tongueyard.trees import is_shape

# The papers that hold as they are told of grammars with bars, too; no other one holds of these.
WITH_BARS = ("tree", "two", "clash", "words", "worth", "led")


def lets_by(grammar, paper):
    """Whether a thing, of any kind, is a paper that holds for a grammar."""
    if not isinstance(paper, tuple) or len(paper) == 0 or not isinstance(paper[0], str):
        return False
    word = paper[0]
    if len(grammar.bars()) > 0 and word not in WITH_BARS:
        return False
    if word in ("tree", "two", "endless", "clash"):
        return walked_holds(grammar, paper)
    if word in ("none", "dead"):
        return facts_hold(grammar, paper)
    if word in ("mend", "nofewer"):
        return mends_hold(grammar, paper)
    if word in ("worth", "orders", "round"):
        return worths_hold(grammar, paper)
    if word == "one":
        return one_holds(grammar, paper)
    if word == "table":
        return table_holds(grammar, paper)
    if word == "known":
        return known_holds(grammar, paper)
    if word == "words":
        return words_hold(grammar, paper)
    return word == "led" and led_holds(grammar, paper)


def walked_holds(grammar, paper):
    """Whether a paper of things that are walked holds."""
    word = paper[0]
    if word == "tree":
        return len(paper) == 3 and is_tree_of(grammar, paper[1], paper[2])
    if word == "two":
        return len(paper) == 4 and are_two(grammar, paper[1], paper[2], paper[3])
    if word == "endless":
        return len(paper) == 5 and is_endless(grammar, paper[1], paper[2], paper[3], paper[4])
    return len(paper) == 4 and is_clash(grammar, paper[1], paper[2], paper[3])


def is_tree_of(grammar, kinds, shape):
    """Whether a thing is a shape of the beginning for another thing, its kinds."""
    return are_texts(kinds) and isinstance(shape, tuple) and is_shape(grammar, shape, kinds)


def are_two(grammar, kinds, one, other):
    """Whether things are two unlike shapes for some kinds."""
    return is_tree_of(grammar, kinds, one) and is_tree_of(grammar, kinds, other) and one != other


def is_endless(grammar, kinds, shape, node, ring):
    """Whether a ring can be put in at a node of a shape for some kinds."""
    if not is_tree_of(grammar, kinds, shape) or not is_number_to(node, len(shape) - 1):
        return False
    if not is_tuple_of_rows(ring, 2) or len(ring) == 0:
        return False
    clean = CleanRows(grammar)
    for label, place in ring:
        if not isinstance(label, str) or label not in clean.rows or not is_whole(place):
            return False
        if not clean.is_step(label, place):
            return False
    names = [clean.homes[label] for label, _ in ring]
    parts = [clean.rows[label][place - 1] for label, place in ring]
    return names[0] == grammar.rule_of(shape[node]) and parts == names[1:] + names[:1]


def is_clash(grammar, one, other, at):
    """Whether things are two trees whose deeds part where the words so far and the next one are alike."""
    if not is_row_of(one, 2) or not is_row_of(other, 2) or not is_whole(at):
        return False
    if not is_tree_of(grammar, one[0], one[1]) or not is_tree_of(grammar, other[0], other[1]):
        return False
    deeds = log_of(grammar, one[1])
    others = log_of(grammar, other[1])
    return (deeds != others and at == alike_words(deeds, others)
            and one[0][:at + 1] == other[0][:at + 1])
