"""Points 121 to 134: documents, against a slow one that tells all anew for each text."""

import copy
import unittest
from random import Random

from tests.brute_documents import KINDS, READ, PlainDocument, plain_words, some_text
from tests.brute_grammars import SUMS, grammar_of
from tongueyard.documents import LIMIT, Document
from tongueyard.errors import NoNode, NoReading, NoRoom, NoSpan, NoStep, Stopped
from tongueyard.grammars import END, Grammar
from tongueyard.readers import Reader
from tongueyard.trees import flat, is_tree

ALPHABETS = {"sums": "12++ ?", "skip": "xxy  z"}
READERS = {name: Reader(grammar) for name, grammar in READ.items()}


def fields(call):
    try:
        return call()
    except (NoSpan, NoRoom, NoStep, NoReading, NoNode, Stopped) as found:
        return (type(found),) + tuple(found.__dict__.values())


def snapshot(document):
    nodes = fields(document.nodes_now)
    many = fields(document.many_now)
    is_read = not isinstance(many, tuple)
    return document.text_now(), document.words_now(), document.stop_now(), many if is_read else 0, nodes if is_read else None


def differences(old, new):
    return tuple(sorted(set(one) - set(other)) for one, other in ((old[0], new[0]), (new[0], old[0]), (old[1], new[1]),
        (new[1], old[1])))


def numbers_of(plain):
    return [word[0] for word in plain.words], [node.number for node in plain.last]


def some_edit(chance, text, alphabet):
    at = chance.randint(0, len(text))
    gone = min(len(text) - at, chance.choice([0, 0, 1, 1, 2, 3]))
    put = some_text(chance, chance.choice([0, 1, 1, 2, 3]), alphabet)
    if chance.random() < 0.15:
        put = text[at:at + gone][:1] + put + text[at:at + gone][-1:]
    return at, gone, put


class Driven:
    """A document and a slow one, driven side by side."""

    def __init__(self, test, name, text, seed):
        self.test, self.name, self.alphabet = test, name, ALPHABETS.get(name, "xy \n")
        self.grammar, self.chance = READ[name], Random(seed)
        self.document, self.plain = Document(READERS[name], text, limit=60), PlainDocument(READ[name], text)
        self.past, self.future, self.entries, self.stops_that_stay = [], [], [], 0
        self.change = differences(([], []), numbers_of(self.plain))
        self.check()

    def check(self):
        test, document, plain = self.test, self.document, self.plain
        told, wanted = snapshot(document), plain.snapshot()
        test.assertEqual(told, wanted[:5])
        test.assertEqual(document.change_now(), self.change)
        test.assertEqual((len(document), repr(document)), (len(plain.text), f"Document({len(plain.words)})"))
        test.assertIs(document.is_busy(), False)
        test.assertEqual(document.entries(), [(way, word) for word in self.entries for way in ("in", "out")])
        test.assertEqual("".join(word[2] for word in document.words_now()), plain.text)
        if wanted[4] is not None:
            test.assertEqual(document.tree_now(), flat(*document.nodes_now()))
            test.assertTrue(is_tree(self.grammar, document.tree_now()))
            test.assertEqual(list(document.nodes_now()[1]), [node.number for node in plain.last])

    def step(self):
        deed = self.chance.choice(["edit"] * 7 + ["edits", "edits", "undo", "undo", "redo"])
        ahead, before = self.plain.kept(), numbers_of(self.plain)
        self.entries.append(deed)
        if deed in ("undo", "redo"):
            self.move(deed, ahead, before)
        else:
            rows = [some_edit(self.chance, self.plain.text, self.alphabet)]
            if deed == "edits":
                rows = self.some_rows()
            if sum(len(put) for _, _, put in rows) + len(self.plain.text) > 40:
                rows = [(0, len(self.plain.text) // 2, "")]
            self.edit(deed, rows, ahead, before)
        self.check()

    def some_rows(self):
        rows, text = [], self.plain.text
        for _ in range(self.chance.randint(0, 3)):
            at, gone, put = some_edit(self.chance, text, self.alphabet)
            rows.append((at, gone, put))
            text = text[:at] + put + text[at + gone:]
        return rows

    def edit(self, deed, rows, ahead, before):
        if deed == "edit":
            at, gone, put = rows[0]
            self.check_cut_again(at, gone, put)
            told = self.document.edit(at, gone=gone, put=put)
        else:
            told = self.document.edits(rows)
        self.test.assertIsNone(told)
        if self.plain.edit(rows):
            self.past.append(ahead)
            self.future = []
            self.change = differences(before, numbers_of(self.plain))

    def move(self, deed, ahead, before):
        source, goal = (self.past, self.future) if deed == "undo" else (self.future, self.past)
        if not source:
            self.test.assertEqual(fields(getattr(self.document, deed)), (NoStep, deed))
            return
        self.test.assertIsNone(getattr(self.document, deed)())
        goal.append(ahead)
        self.plain.bring_back(source.pop())
        self.change = differences(before, numbers_of(self.plain))

    def check_cut_again(self, at, gone, put):
        """What need not be cut again stays; the stop stays where all of it lies ahead."""
        test, text = self.test, self.plain.text
        other = Document(READERS[self.name], text, limit=60)
        start, behind = self.document.cut_again(at, gone=gone, put=put)
        test.assertEqual((start, behind), other.cut_again(at, gone=gone, put=put))
        words, stop = other.words_now(), other.stop_now()
        other.edit(at, gone=gone, put=put)
        if other.text_now() == text:
            test.assertEqual((start, behind), (0, 0))
            return
        for number, _, _, place, _ in other.words_now():
            if place < start or place >= behind:
                test.assertLessEqual(number, len(words))
        self.check_least_places(text, (at, gone, put), start, behind)
        if stop is not None and stop[0] is not None and start >= words[stop[0] - 1][3] + len(words[stop[0] - 1][2]):
            self.stops_that_stay += 1
            test.assertEqual(other.stop_now(), stop)

    def check_least_places(self, text, edit, start, behind):
        at, gone, put = edit
        while gone and put and text[at] == put[0]:
            at, gone, put = at + 1, gone - 1, put[1:]
        while gone and put and text[at + gone - 1] == put[-1]:
            gone, put = gone - 1, put[:-1]
        looking = [place for _, _, place, look in plain_words(self.grammar, text) if place + look > at]
        self.test.assertEqual(start, looking[0] if looking else at)
        new = text[:at] + put + text[at + gone:]
        places = {place for _, _, place, _ in plain_words(self.grammar, new)} | {len(new)}
        old = {place + len(put) - gone for _, _, place, _ in plain_words(self.grammar, text)} | {len(new)}
        self.test.assertEqual(behind, min(place for place in places & old if place >= at + len(put)))


class DrivenOnes(unittest.TestCase):
    def test_many_steps(self):
        read, stayed = 0, 0
        for name in READ:
            for seed in range(12):
                chance = Random(seed)
                driven = Driven(self, name, some_text(chance, 3 * seed, ALPHABETS.get(name, "xy \n")), seed)
                for _ in range(25):
                    driven.step()
                    read += driven.plain.many > 0
                stayed += driven.stops_that_stay
        self.assertGreater(read, 400)
        self.assertGreater(stayed, 300)

    def test_behind_each_the_document_is_as_made_anew(self):
        for name in READ:
            chance = Random(11)
            document = Document(READERS[name])
            for _ in range(25):
                at, gone, put = some_edit(chance, document.text_now(), ALPHABETS.get(name, "xy \n"))
                if len(document) < 12 or not put:
                    document.edit(at, gone=gone, put=put)
                other = Document(READERS[name], document.text_now())
                self.assertEqual(document, other)
                self.assertEqual([word[1:] for word in document.words_now()], [word[1:] for word in other.words_now()])
                self.assertEqual([fields(call) for call in (document.tree_now, document.many_now)],
                                 [fields(call) for call in (other.tree_now, other.many_now)])
                stop, wanted = document.stop_now(), other.stop_now()
                self.assertEqual(stop is None, wanted is None)
                if stop is not None:
                    numbers = {one[0]: two[0] for one, two in zip(document.words_now(), other.words_now())}
                    self.assertEqual((numbers.get(stop[0]), stop[1]), wanted)


class Words(unittest.TestCase):
    def test_by_hand(self):
        document = Document(READERS["sums"], "12 +?3")
        self.assertEqual(document.words_now(), [(1, "num", "12", 0, 3), (2, "gap", " ", 2, 2), (3, "plus", "+", 3, 2),
                                                (4, "", "?", 4, 1), (5, "num", "3", 5, 2)])
        self.assertEqual(document.stop_now(), (4, [END, "num", "plus"]))
        self.assertEqual(document.change_now(), ([], [1, 2, 3, 4, 5], [], []))
        document.edit(4, gone=1)
        self.assertEqual(document.stop_now(), None)
        self.assertEqual(document.change_now(), ([4], [], [], [1, 2, 3, 4]))
        self.assertEqual(document.nodes_now(), (1, {1: ("both", (2, ("plus", "+"), 4)), 2: ("one", (3,)),
                                                    3: ("leaf", (("num", "12"),)), 4: ("leaf", (("num", "3"),))}))
        self.assertEqual(document.tree_now(), (("both", "one", "leaf", "leaf"),
                                               (("num", "12"), ("plus", "+"), ("num", "3"))))
        document.edit(1, put="0")
        self.assertEqual(document.words_now()[0], (6, "num", "102", 0, 4))
        self.assertEqual(document.change_now(), ([1], [6], [1, 2, 3], [5, 6, 7]))

    def test_stops_and_what_may_stand(self):
        for text, stop in (("", None), ("+", None), ("1 1", (3, [END, "plus"])), ("1+1", None),
                           ("1+ ?+", (4, [END, "num", "plus"]))):
            self.assertEqual(Document(READERS["sums"], text).stop_now(), stop)
        even = READERS["even"]
        self.assertEqual(Document(even, "xx y").stop_now(), (None, ["x", "y"]))
        self.assertEqual(Document(even, "x").stop_now(), (None, ["x", "y"]))
        self.assertEqual(Document(even, "x?x").stop_now(), (2, ["x", "y"]))
        self.assertEqual(Document(READERS["barren"], "").stop_now(), (None, []))
        self.assertEqual(Document(READERS["barren"], " x").stop_now(), (2, []))
        # The last word is a stop, too, and nothing may stand behind a whole text.
        flat_reader = Reader(grammar_of("a: p x y", kinds=KINDS))
        self.assertEqual(Document(flat_reader, "xyx").stop_now(), (3, [END]))
        self.assertEqual(Document(flat_reader, "x").stop_now(), (None, ["y"]))
        self.assertEqual(Document(flat_reader, "").stop_now(), (None, ["x"]))

    def test_the_least_tree_of_several(self):
        for name, text in (("two", "yxyxy"), ("two", "xx"), ("barred", "yxyxy"), ("bars", "yxyxy")):
            document = Document(READERS[name], text)
            plain = PlainDocument(READ[name], text)
            self.assertEqual(document.many_now(), plain.many)
            self.assertEqual(document.tree_now()[0], plain.shape)
        self.assertEqual(Document(READERS["two"], "yxyxyxy").many_now(), 5)

    def test_no_reading(self):
        for text, at, kinds in (("1 1", 1, [END, "plus"]), ("?", 0, [END, "num", "plus"]),
                                ("1+2+3 4", 5, [END, "plus"])):
            document = Document(READERS["sums"], text)
            for call in (document.tree_now, document.many_now, document.nodes_now, lambda: document.span_of(1),
                         lambda: document.home_of(99),
                         lambda: document.over(0), lambda: document.over(-5)):
                self.assertEqual(fields(call), (NoReading, at, kinds))
        self.assertEqual(fields(Document(READERS["even"], "xx x").tree_now), (NoReading, 3, ["x", "y"]))

    def test_long_texts_by_a_table(self):
        document = Document(READERS["sums"], "+".join("1" * 100))
        self.assertEqual((len(document), document.many_now(), len(document.nodes_now()[1])), (199, 1, 200))
        document.edit(199, put="+")
        self.assertEqual((len(document.change_now()[1]), len(document.change_now()[3])), (1, 2))
        document.edit(0, gone=1, put="2")
        self.assertEqual([len(one) for one in document.change_now()], [1, 1, 103, 103])


class Edits(unittest.TestCase):
    def test_refused(self):
        document = Document(READERS["sums"], "12+3", limit=6)
        for at, gone in ((-1, 0), (0, -1), (5, 0), (4, 1), (0, 5), (2, 3), (-1, 9), (10 ** 29, 0)):
            for put in ("", "1234567"):
                self.assertEqual(fields(lambda: document.edit(at, gone=gone, put=put)), (NoSpan, (at, gone)))
                self.assertEqual(fields(lambda: document.cut_again(at, gone=gone, put=put)), (NoSpan, (at, gone)))
        for at, gone, put, many in ((0, 0, "123", 7), (4, 0, "+++", 7), (0, 4, "1111111", 7), (2, 1, "++++", 7)):
            self.assertEqual(fields(lambda: document.edit(at, gone=gone, put=put)), (NoRoom, many))
            self.assertEqual(fields(lambda: document.cut_again(at, gone=gone, put=put)), (NoRoom, many))
        self.assertEqual(document.text_now(), "12+3")
        self.assertEqual(document.change_now(), ([], [1, 2, 3], [], [1, 2, 3, 4]))
        document.edit(0, put="12")
        self.assertEqual((document.text_now(), len(document)), ("1212+3", 6))
        self.assertEqual(fields(lambda: document.edit(6, put="1")), (NoRoom, 7))
        self.assertEqual(document.entries(), [(way, "edit") for _ in range(22) for way in ("in", "out")])

    def test_room(self):
        self.assertEqual(LIMIT, 200)
        for text, limit in (("", 0), ("1", 1), ("1" * 200, 200)):
            self.assertEqual(Document(READERS["sums"], text, limit=limit).text_now(), text)
        self.assertEqual(fields(lambda: Document(READERS["sums"], "1" * 201)), (NoRoom, 201))
        self.assertEqual(fields(lambda: Document(READERS["sums"], "1", limit=0)), (NoRoom, 1))
        self.assertEqual(fields(lambda: Document(READERS["sums"], "1", limit=0)), (NoRoom, 1))
        self.assertEqual(len(Document(READERS["sums"], "1" * 250, limit=250)), 250)
        empty = Document(READERS["sums"], limit=0)
        self.assertEqual(fields(lambda: empty.edit(0, put="1")), (NoRoom, 1))
        self.assertEqual(empty.text_now(), "")

    def test_nothing_left(self):
        document = Document(READERS["sums"], "12+3")
        document.edit(0, put="7")
        document.undo()
        for at, gone, put in ((0, 0, ""), (4, 0, ""), (0, 4, "12+3"), (1, 2, "2+"), (3, 1, "3")):
            document.edit(at, gone=gone, put=put)
            self.assertEqual(document.cut_again(at, gone=gone, put=put), (0, 0))
        document.edits([])
        document.edits([(0, 1, "1"), (2, 2, "+3")])
        self.assertEqual(document.change_now(), ([4], [1], [5, 6, 7], [1, 2, 3]))
        document.redo()
        self.assertEqual(document.text_now(), "712+3")

    def test_made_least(self):
        # In "11" an edit of the first 1 by 111 is one behind it, and so are all that come to the same text.
        for at, gone, put in ((0, 1, "111"), (0, 2, "1111"), (1, 1, "111"), (2, 0, "11")):
            document = Document(READERS["sums"], "11+5")
            document.edit(at, gone=gone, put=put)
            self.assertEqual([word[0] for word in document.words_now()], [4, 2, 3])
        # Blanks are a word of their own kind: both words beside stay.
        document = Document(READERS["sums"], "1+2")
        document.edit(0, gone=3, put="1 +2")
        self.assertEqual([word[0] for word in document.words_now()], [1, 4, 2, 3])
        self.assertEqual(document.change_now(), ([], [4], [], []))

    def test_a_word_that_looks_further(self):
        # What stands ahead of the span may be cut otherwise though it lies wholly ahead of it.
        kinds = [("ab", ("or", ("signs", "a"), ("then", ("signs", "a"), ("then", ("signs", "b"), ("signs", "c")))),
                  False), ("b", ("signs", "b"), False)]
        reader = Reader(Grammar(kinds, [("a", [("p", ("ab", "b")), ("q", ("ab",))])]))
        document = Document(reader, "ab")
        self.assertEqual(document.words_now(), [(1, "ab", "a", 0, 3), (2, "b", "b", 1, 2)])
        self.assertEqual(document.cut_again(2, put="c"), (0, 3))
        document.edit(2, put="c")
        self.assertEqual(document.words_now(), [(3, "ab", "abc", 0, 4)])
        self.assertEqual(document.nodes_now(), (2, {2: ("q", (("ab", "abc"),))}))
        document.undo()
        self.assertEqual(document.cut_again(1, put="b"), (0, 2))

    def test_numbers_never_come_twice(self):
        document = Document(READERS["sums"], "1+2")
        seen_words, seen_nodes = set(range(1, 4)), set(range(1, 5))
        for turn in range(8):
            document.edit(0, gone=1, put=str(turn + 2))
            _, words, _, nodes = document.change_now()
            self.assertFalse(set(words) & seen_words or set(nodes) & seen_nodes)
            seen_words |= set(words)
            seen_nodes |= set(nodes)
            if turn % 2:
                document.undo()
                document.undo()
        self.assertEqual((max(seen_words), max(seen_nodes)), (11, 4 + 3 * 8))

    def test_nodes_over_texts_that_do_not_read(self):
        document = Document(READERS["sums"], "1+2+3")
        ahead = document.nodes_now()
        document.edit(5, put="?")
        document.edit(0, put="?")
        self.assertEqual(document.change_now(), ([], [7], [], []))
        self.assertEqual(fields(document.nodes_now)[0], NoReading)
        document.edits([(0, 1, ""), (5, 1, "")])
        self.assertEqual(document.nodes_now(), ahead)
        self.assertEqual(document.change_now(), ([6, 7], [], [], []))
        # A word that is exchanged in the while takes the nodes over it along.
        document.edit(5, put="?")
        document.edit(2, gone=1, put="8")
        self.assertEqual(document.change_now(), ([3], [9], [], []))
        document.edit(5, gone=1)
        self.assertEqual(document.change_now()[2:], ([1, 2, 5], [7, 8, 9]))
        document.undo()
        self.assertEqual(document.change_now()[2:], ([7, 8, 9], [1, 2, 5]))

    def test_nodes_without_words(self):
        reader = READERS["lists"]
        document = Document(reader, "")
        self.assertEqual(document.nodes_now(), (1, {1: ("q", ())}))
        document.edit(0, put=" ")
        self.assertEqual(document.nodes_now(), (1, {1: ("q", ())}))
        document.edit(0, gone=1, put="y")
        first = document.nodes_now()
        self.assertEqual(first, (2, {2: ("p", (3, 7)), 3: ("s", (("y", "y"), 4, 6)), 4: ("v", (5,)), 5: ("w", ()),
                                     6: ("t", ()), 7: ("q", ())}))
        document.edit(1, put=" x")
        # The top is new, and so is what has no words in it; that of the node that is over other words now, too.
        self.assertTrue(all(number > 7 for number in document.nodes_now()[1]))
        document.edit(0, put="  ")
        self.assertEqual(document.change_now()[2:], ([], []))
        document.undo()
        document.undo()
        self.assertEqual(document.nodes_now(), first)

    def test_one_word_exchanged(self):
        document = Document(READERS["sums"], "1+2+3+4")
        parents = {number: document.home_of(number) for number in document.nodes_now()[1]}
        leaf = [number for number, (label, parts) in document.nodes_now()[1].items() if parts == (("num", "2"),)][0]
        over = [leaf]
        while parents[over[-1]] is not None:
            over.append(parents[over[-1]])
        shape = document.tree_now()[0]
        document.edit(2, gone=1, put="77")
        self.assertEqual(document.tree_now()[0], shape)
        self.assertEqual(document.change_now()[2], sorted(over))
        self.assertEqual(len(document.change_now()[3]), len(over))

    def test_rows_of_edits(self):
        document = Document(READERS["sums"], "1+2", limit=5)
        document.edits([(3, 0, "+3"), (0, 1, "9"), (0, 0, "")])
        self.assertEqual((document.text_now(), [word[0] for word in document.words_now()]), ("9+2+3", [4, 2, 3, 5, 6]))
        document.undo()
        self.assertEqual(document.text_now(), "1+2")
        self.assertEqual(fields(document.undo), (NoStep, "undo"))
        # A word that goes and comes again in one row is a new one.
        document.edits([(0, 1, ""), (0, 0, "1")])
        self.assertEqual((document.text_now(), document.words_now()[0][0]), ("1+2", 7))
        self.assertEqual(document.change_now()[:2], ([1], [7]))
        for rows, number, cause in (([(0, 0, "1"), (9, 0, "")], 1, (NoSpan, (9, 0))), ([(0, 0, "123")], 0, (NoRoom, 6)),
                                    ([(0, 0, "12"), (0, 0, "3"), (0, 1, "")], 1, (NoRoom, 6)),
                                    ([(0, 1, ""), (0, 0, ""), (2, 1, "")], 2, (NoSpan, (2, 1)))):
            ahead = snapshot(document), document.change_now()
            with self.assertRaises(Stopped) as caught:
                document.edits(rows)
            self.assertEqual(caught.exception.number, number)
            refusal = caught.exception.__cause__
            self.assertEqual((type(refusal),) + tuple(refusal.__dict__.values()), cause)
            self.assertEqual((snapshot(document), document.change_now()), ahead)
        document.undo()
        self.assertEqual(document.words_now()[0][0], 1)

    def test_undo_and_redo_to_both_ends(self):
        document = Document(READERS["two"], "y")
        seen = [snapshot(document)]
        for put in ("x", "y", " ", "?", "x", "y"):
            document.edit(len(document), put=put)
            seen.append(snapshot(document))
        for _ in range(3):
            for at in range(5, -1, -1):
                document.undo()
                self.assertEqual(snapshot(document), seen[at])
            self.assertEqual(fields(document.undo), (NoStep, "undo"))
            for at in range(1, 7):
                document.redo()
                self.assertEqual(snapshot(document), seen[at])
            self.assertEqual(fields(document.redo), (NoStep, "redo"))
        document.undo()
        document.edit(0, put=" ")
        self.assertEqual(fields(document.redo), (NoStep, "redo"))
        document.undo()
        self.assertEqual(snapshot(document), seen[5])


class Places(unittest.TestCase):
    def test_spans_and_homes(self):
        for name, text in (("sums", " 1 + 22+ 3 "), ("sums", "  "), ("sums", " + "), ("lists", "y xx y\n"),
                           ("lists", " "), ("two", "yx xy"), ("barred", "y xy")):
            document, plain = Document(READERS[name], text), PlainDocument(READ[name], text)
            places = {word[0]: (word[3], word[3] + len(word[2])) for word in plain.words}
            row = [plain.words[at][0] for at in plain.row]
            spans = {}
            for node in plain.last:
                if node.words:
                    spans[node.number] = places[node.words[0]][0], places[node.words[-1]][1]
                else:
                    ahead = self.words_ahead(plain, node)
                    spans[node.number] = (places[row[ahead - 1]][1],) * 2 if ahead else (0, 0)
                self.assertEqual(document.span_of(node.number), spans[node.number])
                self.assertEqual(document.home_of(node.number), node.home.number if node.home else None)
            for place in range(len(text)):
                over = [node.number for node in plain.last if spans[node.number][0] <= place < spans[node.number][1]]
                self.assertEqual(document.over(place), over[-1] if over else None)
            for place in (-1, len(text), len(text) + 1, 10 ** 29):
                self.assertEqual(fields(lambda: document.over(place)), (NoSpan, (place, 1)))
            for number in (0, -1, 99, 10 ** 29):
                self.assertEqual(fields(lambda: document.span_of(number)), (NoNode, number))
                self.assertEqual(fields(lambda: document.home_of(number)), (NoNode, number))

    def words_ahead(self, plain, node):
        """How many words stand ahead of a node in the tree."""
        many = 0

        def walk(one):
            nonlocal many
            if one is node:
                return True
            for part in one.parts:
                if not isinstance(part, int):
                    if walk(part):
                        return True
                else:
                    many += 1
            return False
        walk(plain.last[0])
        return many

    def test_nodes_of_other_texts(self):
        document = Document(READERS["sums"], "1+2")
        document.edit(0, gone=1, put="3")
        self.assertEqual(fields(lambda: document.span_of(3)), (NoNode, 3))
        self.assertEqual(document.span_of(4), (2, 3))


class Whole(unittest.TestCase):
    def test_equal(self):
        one, other = Document(READERS["sums"], "1+2"), Document(Reader(READ["sums"]), "1+2", limit=9)
        self.assertEqual(one, other)
        other.edit(0, put="1")
        self.assertNotEqual(one, other)
        one.edit(1, put="1")
        self.assertEqual(one, other)
        self.assertNotEqual(one.words_now(), Document(READERS["sums"], "11+2").words_now())
        self.assertEqual(one, Document(READERS["sums"], "11+2"))
        for thing in (None, "11+2", READERS["sums"], 4, Document(Reader(SUMS), "11+2"),
                      Document(READERS["two"], "11+2")):
            self.assertFalse(one == thing)

    def test_two_of_one_reader(self):
        one, other = Document(READERS["sums"], "1"), Document(READERS["sums"], "2")
        one.edit(1, put="+1")
        self.assertEqual((other.text_now(), other.entries(), other.words_now()), ("2", [], [(1, "num", "2", 0, 2)]))
        other.edit(0, put="?")
        self.assertEqual(one.words_now()[-1], (3, "num", "1", 2, 2))
        self.assertEqual(fields(lambda: one.redo()), (NoStep, "redo"))

    def test_what_is_told_is_the_askers(self):
        document = Document(READERS["sums"], "1+2")
        asks = [document.words_now, document.nodes_now, document.change_now, document.entries, document.tree_now]
        for ask in asks:
            first = copy.deepcopy(ask())
            told = ask()
            for thing in (told,) + (told if isinstance(told, tuple) else ()):
                if isinstance(thing, (list, dict)):
                    thing.clear()
            self.assertEqual(ask(), first)
        broken = Document(READERS["sums"], "1 1")
        broken.stop_now()[1].clear()
        self.assertEqual(broken.stop_now(), (3, [END, "plus"]))
        fields(broken.tree_now)[2].clear()
        self.assertEqual(fields(broken.tree_now), (NoReading, 1, [END, "plus"]))
        rows = [(0, 0, "7")]
        document.edits(rows)
        self.assertEqual(rows, [(0, 0, "7")])
