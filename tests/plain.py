"""The document's words as they stand, gone through plainly: slow, and without the package's own ways."""

import itertools

CALLED = "call"


class PlainStore:
    """Nodes with marks, and edges: of a Store, or of a tree, the nodes of which are numbered from the root on."""

    def __init__(self, marks, edges, levels=None):
        self.marks = marks
        self.edges = edges
        self.levels = levels

    def ends_of(self, node, word):
        return [other for one, name, other in self.edges if one == node and name == word]


def of_tree(tree):
    marks, edges, levels = {}, [], {}

    def add(node, level):
        number = len(marks)
        marks[number] = set(node[0])
        levels[number] = level
        for word, below in node[1]:
            edges.append((number, word, add(below, level + 1)))
        return number

    add(tree, 0)
    return PlainStore(marks, edges, levels)


def of_store(store):
    marks = {node: {word for one, word in store.marked if one == node} for node in store.nodes}
    return PlainStore(marks, list(store.edges))


def plain_fits(held, node, pattern, called=()):
    """Whether a node fits a tree, or a body if a node of those called is taken for the call."""
    if len(pattern) == 3 and node not in called:
        return False
    return set(pattern[0]) <= held.marks[node] and all(
        any(plain_fits(held, other, below, called) for other in held.ends_of(node, word))
        for word, below in pattern[1])


def plain_chosen(rules, held):
    """The rounds of [12]: each one adds the nodes that fit an end, or a step by those that are there."""
    lot = set()
    while True:
        more = {node for node in held.marks
                if any(plain_fits(held, node, end) for end in rules.ends)
                or any(plain_fits(held, node, step, lot) for step in rules.steps)}
        if more <= lot:
            return lot
        lot |= more


def call_depth(body, level=0):
    """The level of the call."""
    if len(body) == 3:
        return level
    found = [call_depth(below, level + 1) for _, below in body[1]]
    return next((one for one in found if one is not None), None)


def all_depth(rules, unfolding):
    return sum(call_depth(rules.steps[step]) for step in unfolding[:-1])


def put(body, tree):
    if len(body) == 3:
        return tuple(sorted(set(body[0]) | set(tree[0]))), body[1] + tree[1]
    return body[0], tuple((word, put(below, tree)) for word, below in body[1])


def all_tree(rules, unfolding):
    """The tree of an unfolding, by the words of [13]."""
    if len(unfolding) == 1:
        return rules.ends[unfolding[0]]
    return put(rules.steps[unfolding[0]], all_tree(rules, unfolding[1:]))


def unfoldings(rules, most):
    """All unfoldings of at most so many steps, those of fewer steps ahead."""
    steps, ends = range(len(rules.steps)), range(len(rules.ends))
    return [row + (end,) for many in range(most + 1)
            for row in itertools.product(steps, repeat=many) for end in ends]


def fitted(rules, held, node, most):
    """All unfoldings of at most so many steps whose tree a node fits."""
    return [one for one in unfoldings(rules, most) if plain_fits(held, node, all_tree(rules, one))]


def plain_least(rules, tree, most):
    """Lowest depth and fewest steps of the unfoldings, of at most so many steps, that a tree's root fits."""
    found = fitted(rules, of_tree(tree), 0, most)
    if not found:
        return None, None
    return min(all_depth(rules, one) for one in found), min(len(one) - 1 for one in found)


def plain_own(rules, unfolding):
    """Whether none of lower depth is fitted: one with more steps than levels there are cannot be."""
    depth = all_depth(rules, unfolding)
    held = of_tree(all_tree(rules, unfolding))
    return not any(all_depth(rules, one) < depth and plain_fits(held, 0, all_tree(rules, one))
                   for one in unfoldings(rules, depth - 1))


def level_in(tree):
    return max((1 + level_in(below) for _, below in tree[1]), default=0)


def plain_gaps(rules):
    found = []

    def add(node):
        for branch in node[1]:
            if branch not in found:
                found.append(branch)
            add(branch[1])

    for tree in rules.ends + rules.steps:
        add(tree)
    return tuple(sorted(found))


def plain_view(rules, unfolding):
    """The view of an unfolding, by the words of [15]."""
    tree = all_tree(rules, unfolding)
    held = of_tree(tree)
    height = max(level_in(one) for one in rules.ends + rules.steps)
    depth = all_depth(rules, unfolding)
    earliest_ends = {}

    def earliest_end(node):
        """Least level of a node taken for an end, if this node is chosen by an unfolding with that end."""
        if node not in earliest_ends:
            found = fitted(rules, held, node, level_in(tree) - held.levels[node])
            earliest_ends[node] = min((held.levels[node] + all_depth(rules, one) for one in found), default=None)
        return earliest_ends[node]

    gains = []
    for word, pattern in plain_gaps(rules):
        below = held.ends_of(0, word)
        if call_depth(pattern) is None:
            gains.append(any(plain_fits(held, node, pattern) for node in below))
            continue
        calls = [one for one in held.marks if any(plain_fits(held, node, pattern, (one,)) for node in below)]
        levels = [earliest_end(one) for one in calls]
        levels = [level for level in levels if level is not None]
        gains.append(min(max(-1, min(levels) - depth), height) if levels else None)
    return min(depth, height), tuple(sorted(held.marks[0])), tuple(gains)


def plain_view_by(rules, tree):
    """The view by these rules of an unfolding of other ones that has this tree, by the interface's words."""
    held = of_tree(tree)
    lot = plain_chosen(rules, held)
    return tuple(sorted(held.marks[0])), tuple(
        any(plain_fits(held, node, pattern, lot) for node in held.ends_of(0, word))
        for word, pattern in plain_gaps(rules))


def parts(one, other, unfolding):
    """Whether the root of an unfolding's tree is not chosen by other rules."""
    return 0 not in plain_chosen(other, of_tree(all_tree(one, unfolding)))


def plain_parting(one, other, most):
    """The first unfolding of at most so many steps that parts rules from other ones."""
    return next((row for row in unfoldings(one, most) if parts(one, other, row)), None)
