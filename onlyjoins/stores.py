"""Stores: nodes with marks and edges, the trees that their nodes fit, and the nodes that rules choose."""

from onlyjoins.errors import BadNumber, BadStore, TooMany
from onlyjoins.trees import are_words, is_word, laid_out

MOST_NODES = 12
NAMES = "abcdefghijkl"


class Store:
    """Nodes, marked nodes and edges between nodes; they never change."""

    def __init__(self, nodes, marked=(), edges=()):
        if not are_words(nodes, 1, MOST_NODES):
            raise BadStore("nodes")
        if not _are_marked(nodes, marked):
            raise BadStore("marked")
        if not _are_edges(nodes, edges):
            raise BadStore("edges")
        self.nodes = tuple(nodes)
        self.marked = tuple(sorted(marked))
        self.edges = tuple(sorted(edges))

    def __eq__(self, other):
        if not isinstance(other, Store):
            return False
        return self.nodes == other.nodes and self.marked == other.marked and self.edges == other.edges


class Lookup:
    """The marks and edges of a store, made ready to be looked up by node and word."""

    def __init__(self, store):
        self.names = store.nodes
        self.is_marked = {row: True for row in store.marked}
        self.others = {}
        for node, word, other in store.edges:
            self.others.setdefault((node, word), []).append(other)


def fits(store, node, tree):
    """Tell whether a node of a store fits a tree of any size."""
    need_node(store, node)
    return node in _fitting(Lookup(store), tree, ())


def chosen(rules, store):
    """All nodes of a store that the rules choose, ascending."""
    return tuple(sorted(_reasons(rules, store)))


def reason(rules, store, node):
    """An unfolding with the fewest steps whose tree a node fits, None if the node is not chosen."""
    need_node(store, node)
    return _reasons(rules, store).get(node)


def store_of(tree):
    """The store of a tree, its nodes being named from the root on, each followed by those below it."""
    rows = laid_out(tree)
    if len(rows) > MOST_NODES:
        raise TooMany(MOST_NODES)
    marked = [(NAMES[number], mark) for number, row in enumerate(rows) for mark in row[0][0]]
    edges = [(NAMES[rows[number][1]], rows[number][2], NAMES[number]) for number in range(1, len(rows))]
    return Store(tuple(NAMES[:len(rows)]), marked, edges)


def _is_node(nodes, thing):
    # The kind is asked first: a value of another kind may say of itself that it equals all.
    return isinstance(thing, str) and thing in nodes


def need_node(store, thing):
    if not _is_node(store.nodes, thing):
        raise BadNumber(thing)


def _are_marked(nodes, things):
    """Tell whether any value is a row of different pairs of a node and a word."""
    if not isinstance(things, (list, tuple)) or not all([_is_tuple(thing, 2) for thing in things]):
        return False
    if not all([_is_node(nodes, node) and is_word(word) for node, word in things]):
        return False
    return len(set(things)) == len(things)


def _are_edges(nodes, things):
    """Tell whether any value is a row of different triples of a node, a word and a node."""
    if not isinstance(things, (list, tuple)) or not all([_is_tuple(thing, 3) for thing in things]):
        return False
    if not all([_is_node(nodes, one) and is_word(word) and _is_node(nodes, other) for one, word, other in things]):
        return False
    return len(set(things)) == len(things)


def _is_tuple(thing, many):
    return isinstance(thing, tuple) and len(thing) == many


def _fitting(lookup, tree, called):
    """The nodes that fit a tree of any size; in a body, only those called are taken for the call."""
    rows = laid_out(tree)
    able = [_able_nodes(lookup, row[0], called) for row in rows]
    for number in range(len(rows) - 1, 0, -1):
        _, above, word = rows[number]
        able[above] = [name for name in able[above] if _leads(lookup, name, word, able[number])]
    return able[0]


def _able_nodes(lookup, wanted, called):
    """The nodes that have the marks of a tree's node, and are called if it is the call."""
    names = called if len(wanted) == 3 else lookup.names
    return [name for name in names if all([(name, mark) in lookup.is_marked for mark in wanted[0]])]


def _leads(lookup, name, word, goals):
    """Tell whether some edge with this word leads from a node to one of the goals."""
    return any([other in goals for other in lookup.others.get((name, word), ())])


def _reasons(rules, store):
    """Each chosen node with an unfolding of the fewest steps whose tree it fits."""
    lookup = Lookup(store)
    found = {}
    for number, end in enumerate(rules.ends):
        for name in _fitting(lookup, end, ()):
            found.setdefault(name, (number,))
    # Nodes wait in the order of their numbers of steps, so the first reason has the fewest.
    waiting = list(found)
    done = 0
    while done < len(waiting):
        called = waiting[done]
        for number, step in enumerate(rules.steps):
            for name in _fitting(lookup, step, (called,)):
                if name not in found:
                    found[name] = (number,) + found[called]
                    waiting.append(name)
        done += 1
    return found
