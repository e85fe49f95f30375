"""Steps and bridges: they lead trees of one grammar over to another one."""

from tongueyard.errors import NoBack, NoLead, NoTree
from tongueyard.judge_bridges import JudgedStep
from tongueyard.leading import LedTree
from tongueyard.templates import direct_parts, straight_template
from tongueyard.trees import need_tree


class Step:
    def __init__(self, old, new, names, templates):
        self._old = old
        self._new = new
        self._names = {name: names[name] for name in names}
        self._templates = {label: templates[label] for label in templates}

    def old(self):
        return self._old

    def new(self):
        return self._new

    def names(self):
        return {name: self._names[name] for name in self._names}

    def templates(self):
        return {label: self._templates[label] for label in self._templates}

    def steps(self):
        return [self]

    def leads(self, label):
        return self._templates[label][0][1] if label in self._templates else None

    def straight(self, label):
        if label not in self._templates:
            return False
        other = self.leads(label)
        many = len(self._new.row_of(other))
        return (self._templates[label] == straight_template(other, many)
                and len(self._old.row_of(label)) == many)

    def leads_name(self, name):
        return self._names.get(name)

    def __eq__(self, other):
        return (isinstance(other, Step) and self._old == other._old and self._new == other._new
                and self._names == other._names and self._templates == other._templates)

    def __len__(self):
        return 1

    def __repr__(self):
        return f"Step({len(self._templates)})"


class Bridge:
    def __init__(self, steps=()):
        self._steps = list(steps)

    def steps(self):
        return list(self._steps)

    def joined_to(self, other):
        return Bridge(self._steps + other.steps())

    def leads(self, label):
        for step in self._steps:
            label = None if label is None else step.leads(label)
        return label

    def straight(self, label):
        for step in self._steps:
            if not step.straight(label):
                return False
            label = step.leads(label)
        return True

    def leads_name(self, name):
        for step in self._steps:
            name = None if name is None else step.leads_name(name)
        return name

    def __eq__(self, other):
        return isinstance(other, Bridge) and self._steps == other._steps

    def __len__(self):
        return len(self._steps)

    def __repr__(self):
        return f"Bridge({len(self._steps)})"


def step_fault(step):
    """None where a step is right, "" where its names are wrong, else the first label whose template is."""
    names = list(step.names().items())
    judged = JudgedStep(step.old(), step.new(), names)
    if not judged.are_names(names):
        return ""
    for label, pieces in step.templates().items():
        if not judged.is_template(label, pieces):
            return label
    return None


def led(bridge, tree, *, keep=False):
    """The tree to which a step or a bridge leads one, with keep also which nodes and words became which."""
    nodes = None
    words = None
    steps = bridge.steps()
    for number, step in enumerate(steps):
        made = led_once(step, number, tree)
        tree = made.tree()
        nodes = chained(made.nodes, nodes)
        words = chained(made.words, words)
    if not keep:
        return tree
    if nodes is None:
        nodes = {at: at for at in range(len(tree[0]))}
        words = {at: at for at in range(len(tree[1]))}
    return tree, nodes, words


def led_once(step, number, tree):
    """The tree to which a step leads one; refuses what can't be led with the step's number."""
    need_tree(step.old(), tree)
    if step.leads_name(step.old().begin()) != step.new().begin():
        raise NoLead(number, 0, "begin")
    made = LedTree(step, tree)
    if made.lost is not None:
        raise NoLead(number, made.lost[0], made.lost[1])
    try:
        need_tree(step.new(), made.tree())
    except NoTree:
        raise NoLead(number, 0, "bar")
    return made


def chained(ones, others):
    """A dict from keys to what others have of what ones have of them, where they have it; others None is all."""
    if others is None:
        return ones
    return {key: others[one] for key, one in ones.items() if one in others}


def led_paper(step, tree):
    """The paper that a step leads a tree to another one."""
    other = led(step, tree)
    names = tuple(sorted(step.names().items()))
    templates = tuple(sorted(step.templates().items()))
    return "led", step.new(), names, templates, tree, other


def turned(bridge):
    """The step, or the bridge, back."""
    if isinstance(bridge, Bridge):
        return Bridge([turned_step(step) for step in bridge.steps()[::-1]])
    return turned_step(bridge)


def turned_step(step):
    """The step back of one; refuses the first label that can't be led back."""
    templates = step.templates()
    made = {}
    for label in step.old().labels():
        back = None
        if label in templates and step.leads(label) not in made:
            back = back_template(step, label, templates[label])
        if back is None:
            raise NoBack(label)
        made[step.leads(label)] = back
    return Step(step.new(), step.old(), {other: name for name, other in step.names().items()}, made)


def back_template(step, label, pieces):
    """The template back of a label's, None where some part can't be found in it just once."""
    spots = spots_of_parts(step.new(), pieces)
    back = [("node", label)]
    for at, symbol in enumerate(step.old().row_of(label)):
        found = back_part(pieces, spots, ("part", at + 1))
        if pieces.count(("part", at + 1)) == 0 and step.old().is_rule(symbol):
            found = back_within(step.old(), pieces, spots, at + 1, symbol)
        if found is None:
            return None
        back.extend(found)
    return tuple(back)


def back_part(pieces, spots, piece):
    """The list of the piece that leads back to what another one takes; None where that does not stand just once."""
    return [spots[piece]] if pieces.count(piece) == 1 and piece in spots else None


def back_within(old, pieces, spots, place, name):
    """The pieces that make the node at a place anew of its parts; None where these do not stand just once each."""
    labels = old.labels_of(name)
    if len(labels) > 1:
        return None
    back = [("node", labels[0])]
    for inner in range(1, len(old.row_of(labels[0])) + 1):
        found = back_part(pieces, spots, ("within", place, labels[0], inner))
        if found is None:
            return None
        back.extend(found)
    return back


def spots_of_parts(new, pieces):
    """A dict from the pieces in a template's first node, or in nodes of lone alternatives there, to pieces back."""
    spots = {}
    for place, at in enumerate(direct_parts(new, pieces, 0)):
        if pieces[at][0] != "node":
            spots[pieces[at]] = ("part", place + 1)
        elif len(new.labels_of(new.rule_of(pieces[at][1]))) == 1:
            for inner, within in enumerate(direct_parts(new, pieces, at)):
                spots[pieces[within]] = ("within", place + 1, pieces[at][1], inner + 1)
    return spots
