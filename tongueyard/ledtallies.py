"""Tallies led over from one grammar to the next."""

from tongueyard.templates import direct_parts


def led_tally(step, tally):
    """The marks, the sums, and what is lost of a tally that is led over a step or a bridge."""
    marks = list(tally[0])
    # Each sum with what it was for at first.
    sums = [(one[:3], one) for one in tally[1]]
    steps = step.steps()
    for one in steps:
        marks = led_marks(one, marks)
        sums = led_sums(one, [mark[0] for mark in marks], sums)
    left = {first: True for first, _ in sums}
    return marks, [told for _, told in sums], [one[:3] for one in tally[1] if one[:3] not in left]


def led_marks(step, marks):
    """Marks with the new names of their rules, those without any left out."""
    led = []
    for attribute, way, sort, names in marks:
        found = []
        for name in names:
            other = step.leads_name(name)
            if other is not None and other not in found:
                found.append(other)
        if found:
            led.append((attribute, way, sort, tuple(found)))
    return led


def led_sums(step, attributes, sums):
    """The list of (first, sum) of the sums that are led, these attributes being left."""
    places = {label: led_places(step, label) for label in step.templates() if is_plain(step, label)}
    led = []
    for first, (label, place, attribute, expression) in sums:
        if label in places and place in places[label] and attribute in attributes:
            told = led_expression(places[label], attributes, expression)
            if told is not None:
                led.append((first, (step.leads(label), places[label][place], attribute, told)))
    return led


def is_plain(step, label):
    """Whether no other label's template begins as a label's, and no part of that node is one part twice."""
    others = [other for other in step.templates() if step.leads(other) == step.leads(label)]
    taken = [piece for _, piece in first_parts(step, label) if piece[0] == "part"]
    return len(others) == 1 and len(set(taken)) == len(taken)


def first_parts(step, label):
    """The list of (place, piece) of the parts of the node with which a label's template begins."""
    pieces = step.templates()[label]
    return [(at + 1, pieces[start]) for at, start in enumerate(direct_parts(step.new(), pieces, 0))]


def led_places(step, label):
    """A dict from the places of a label to those to which they go; the others go nowhere."""
    places = {piece[1]: at for at, piece in first_parts(step, label) if piece[0] == "part"}
    places[0] = 0
    return places


def led_expression(places, attributes, expression):
    """An expression with its places turned; None where one goes nowhere, or an attribute is none of those left."""
    word = expression[0]
    if word in ("text", "number"):
        return expression
    if word == "at" or word == "word":
        if expression[1] not in places or (word == "at" and expression[2] not in attributes):
            return None
        return (word, places[expression[1]]) + expression[2:]
    parts = [led_expression(places, attributes, part) for part in expression[1:]]
    return None if None in parts else (word,) + tuple(parts)
