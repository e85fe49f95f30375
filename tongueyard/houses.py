"""What stands in a bench at a moment: grammars in versions, and documents; none of it is ever changed."""

from tongueyard.errors import NoName, NoSuch, NoVersion, Taken
from tongueyard.names import is_name


class Version:
    """A version of a grammar, with the reader of it, its layout, its tally or None, the bridge from the one ahead."""

    def __init__(self, reader, layout, tally, bridge):
        self.reader = reader
        self.grammar = reader.grammar_read()
        self.layout = layout
        self.tally = tally
        self.bridge = bridge

    def with_tally(self, tally):
        return Version(self.reader, self.layout, tally, self.bridge)

    def with_layout(self, layout):
        return Version(self.reader, layout, self.tally, self.bridge)


class Leaf:
    """A document: the name of its grammar, at which version it stands, whether it is still, and its page."""

    def __init__(self, home, number, is_still, page):
        self.home = home
        self.number = number
        self.is_still = is_still
        self.page = page

    def with_page(self, number, page):
        return Leaf(self.home, number, self.is_still, page)


class House:
    """grammars: by names the tuples of their versions; leaves: the documents by their names."""

    def __init__(self, grammars, leaves):
        self.grammars = grammars
        self.leaves = leaves

    def version_of(self, leaf):
        return self.grammars[leaf.home][leaf.number]

    def newest(self, name):
        return self.grammars[name][-1]

    def with_version(self, name, version):
        """The house with one version more of a grammar, perhaps the first one."""
        return House({**self.grammars, name: self.grammars.get(name, ()) + (version,)}, self.leaves)

    def with_newest(self, name, version):
        """The house with another newest version of a grammar."""
        return House({**self.grammars, name: self.grammars[name][:-1] + (version,)}, self.leaves)

    def with_leaf(self, name, leaf):
        return House(self.grammars, {**self.leaves, name: leaf})

    def without_leaf(self, name):
        return House(self.grammars, {other: leaf for other, leaf in self.leaves.items() if other != name})

    def grammar_versions(self, name):
        """The versions of a grammar; refuses what is no name, or that of none."""
        need_name(name)
        need_there(name, self.grammars)
        return self.grammars[name]

    def version_at(self, name, number):
        """The version of a grammar with a number, the newest one of None; refuses where there is none."""
        versions = self.grammar_versions(name)
        if number is None:
            return versions[-1]
        if not 0 <= number < len(versions):
            raise NoVersion(number)
        return versions[number]

    def leaf_of(self, name):
        """The document of a name; refuses what is no name, or that of none."""
        need_name(name)
        need_there(name, self.leaves)
        return self.leaves[name]


def need_name(name):
    if not is_name(name):
        raise NoName(name)


def need_there(name, those):
    """Refuses a name for which nothing stands among some."""
    if name not in those:
        raise NoSuch(name)


def need_free(name, those):
    """Refuses a name for which something stands among some."""
    if name in those:
        raise Taken(name)
