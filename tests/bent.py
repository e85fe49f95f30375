"""Papers bent at one place, to ask the judge of."""

from tongueyard.judge import lets_by

ANYTHING = [None, True, False, 0, 7, -1, 1.5, "", "x", b"x", (), [], {}, {1}, object(), str, len, range(2), ("a",), ("p",),
            [()], ((),), (None,), ("tree",), ("none", None, None), ("known", 1), ("words", (), ())]
STRANGE = [None, 1.0, b"p", [], {}, {1}, object(), str, len, range(2), NotImplemented]


def parts_of(thing, path=()):
    """All (path, part) of a nested thing, dicts' values too."""
    yield path, thing
    if isinstance(thing, tuple):
        for at, part in enumerate(thing):
            yield from parts_of(part, path + (at,))
    elif isinstance(thing, dict):
        for key, part in thing.items():
            yield from parts_of(part, path + (key,))


def with_part(thing, path, part):
    """The thing with another part at a path."""
    if not path:
        return part
    inner = with_part(thing[path[0]], path[1:], part)
    if isinstance(thing, dict):
        return {**thing, path[0]: inner}
    return thing[:path[0]] + (inner,) + thing[path[0] + 1:]


def others(part):
    """Things of another kind than a part."""
    if isinstance(part, tuple):
        return STRANGE + [list(part), 0, True, "p", dict.fromkeys(range(len(part)))]
    if isinstance(part, bool) or isinstance(part, int):
        return STRANGE + [float(part), bool(part), str(part), (part,), [part]]
    if isinstance(part, str):
        return STRANGE + [part.encode(), (part,), [part], 0, True, tuple(part) + (0,)]
    if isinstance(part, dict):
        return [one for one in STRANGE if one != {}] + [0, True, "p", (), tuple(part.items())]
    return STRANGE[1:] + [0, True, "p", ()]


def bent_kinds(paper, most=400):
    """Papers with a thing of another kind at one place, at most so many places, spread over all."""
    places = [one for one in parts_of(paper) if len(one[0]) > 0]
    step = max(1, len(places) // most)
    for path, part in places[::step]:
        for other in others(part):
            yield with_part(paper, path, other)


def check_form(test, grammar, paper, most=400):
    """Whatever is bent to another kind, left out or put in at the top is not let by, and nothing is raised."""
    for other in bent_kinds(paper, most):
        told = lets_by(grammar, other)
        test.assertIs(told, False, other)
    for other in (paper[:-1], paper + (None,), paper + ((),), paper[:1], list(paper), paper[1:], ("x",) + paper[1:],
                  (paper,), paper[:1] + paper, (None,) + paper[1:]):
        test.assertIs(lets_by(grammar, other), False, other)
