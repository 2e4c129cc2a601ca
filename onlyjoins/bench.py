"""Benches: rules and a store that are led deed by deed, with undo and trials."""

from onlyjoins.errors import BadNumber
from onlyjoins.rules import is_number
from onlyjoins.stores import Store, chosen, need_node
from onlyjoins.trees import is_word


class Bench:
    """Rules and a store, and what they were ahead of each deed."""

    def __init__(self, rules, store):
        self._now = (rules, store)
        self._past = []

    def __eq__(self, other):
        return isinstance(other, Bench) and self.rules == other.rules and self.store == other.store

    def __len__(self):
        return len(self._past)

    @property
    def rules(self):
        """The rules as they are now."""
        return self._now[0]

    @property
    def store(self):
        """The store as it is now."""
        return self._now[1]

    def picked(self):
        """All nodes of the store that the rules choose, ascending."""
        return chosen(self.rules, self.store)

    def end(self, tree):
        """Add an end to the rules."""
        self._lead(self.rules.with_end(tree), self.store)

    def step(self, body):
        """Add a step to the rules."""
        self._lead(self.rules.with_step(body), self.store)

    def mark(self, node, word):
        """Mark a node; a mark that is there already changes nothing, but is a deed."""
        store = self.store
        need_node(store, node)
        _need_word(word)
        self._lead(self.rules, Store(store.nodes, _with_row(store.marked, (node, word)), store.edges))

    def edge(self, node, word, other):
        """Add an edge; one that is there already changes nothing, but is a deed."""
        store = self.store
        need_node(store, node)
        _need_word(word)
        need_node(store, other)
        self._lead(self.rules, Store(store.nodes, store.marked, _with_row(store.edges, (node, word, other))))

    def undo(self, many=1):
        """Take back the last deeds."""
        if not is_number(many, len(self._past) + 1) or many == 0:
            raise BadNumber(many)
        self._now = self._past[-many]
        del self._past[-many:]

    def trial(self):
        """A trial, for one with statement: when its block ends, the bench is what it was."""
        return Trial(self)

    def _lead(self, rules, store):
        """Do a deed: these are the rules and the store from now on."""
        self._past.append(self._now)
        self._now = (rules, store)


class Trial:
    """Keeps what a bench is when a block begins, and gives it back when the block ends."""

    def __init__(self, bench):
        self._bench = bench
        self._kept_now = None
        self._kept_past = []

    def __enter__(self):
        self._kept_now = self._bench._now
        self._kept_past = list(self._bench._past)
        return self._bench

    def __exit__(self, kind, value, trace):
        self._bench._now = self._kept_now
        self._bench._past = self._kept_past


def tried(bench, function):
    """Call a function with a bench in a trial, and tell what it returns."""
    with bench.trial() as same:
        return function(same)


def _need_word(thing):
    if not is_word(thing):
        raise BadNumber(thing)


def _with_row(rows, row):
    """The rows with a further one, if it is not there already."""
    return rows if row in rows else rows + (row,)
