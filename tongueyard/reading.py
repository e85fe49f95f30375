"""Plain reading: the shapes of a row of kinds by their numbers, its only one, and papers of rows that are not read."""

from tongueyard.charts import Chart
from tongueyard.earley import facts_of
from tongueyard.errors import Many, NoReading, NoShape, Ringed
from tongueyard.forests import Forest
from tongueyard.trees import is_shape


def forest_of(grammar, row):
    """The forest of a row; refuses a row whose shapes are endless."""
    forest = Forest(facts_of(grammar, row), list(row))
    ringed = forest.ringed()
    for name, _ in grammar.rules():
        if name in ringed:
            raise Ringed(name)
    return forest


def nth_shape(grammar, row, number):
    """The shape of a row with a number."""
    forest = forest_of(grammar, row)
    if not 0 <= number < forest.how_many():
        raise NoShape(forest.how_many())
    return forest.shape_at(number)


def place_of_shape(grammar, row, shape):
    """The number of a shape of a row."""
    forest = forest_of(grammar, row)
    if not is_shape(grammar, shape, row):
        raise NoShape(forest.how_many())
    return forest.place_of(shape)


def only_shape(grammar, row):
    """The only shape of a row."""
    need_read(grammar, row)
    forest = forest_of(grammar, row)
    if forest.how_many() > 1:
        raise Many(forest.shape_at(0), forest.shape_at(1))
    return forest.shape_at(0)


def need_read(grammar, row):
    """Refuses a row that is not read."""
    chart = Chart(grammar, row)
    if not chart.reads():
        raise NoReading(chart.bad(), chart.next_kinds(chart.bad()))


def reading_paper(grammar, row):
    """The paper that a row isn't read, None where it is."""
    chart = Chart(grammar, row)
    return None if chart.reads() else ("none", tuple(row), chart.facts())


def dead_paper(grammar, row):
    """The paper that no text begins with a row, None where one does."""
    facts = facts_of(grammar, row)
    if not facts.is_dead():
        return None
    return ("dead", tuple(row), Chart(grammar, row).facts())
