"""Rules made ready to be held against trees of any size, node by node.

A node has a state: the pair of its marks and of its gains, one for each gap of the rules. A gain is None
if none of the node's branches is like the gap. Otherwise it is a pair: what it costs to choose the node
that is taken for the gap's call, at the least, and an unfolding that does so; it is FREE without a call.
"""

from onlyjoins.trees import call_level, has_marks, height_of, joined_marks, laid_out

HERE = -1
FREE = (0, ())


class Want:
    """What a node must have so as to be taken for the root of a tree, of a body or of what a gap leads to."""

    def __init__(self, tree, gaps):
        self.marks = tree[0]
        self.needs = [gaps.index(branch) for branch in tree[1]]
        self.call = None
        # The call: None for none, HERE if it is this node, otherwise the gap that leads to it.
        if call_level(tree) == 0:
            self.call = HERE
        for branch in tree[1]:
            if call_level(branch[1]) is not None:
                self.call = gaps.index(branch)


class Plan:
    """Gaps, ends and steps of rules as what they want; with the cost of each step."""

    def __init__(self, rules, costs):
        self.gaps = find_gaps(rules)
        self.costs = costs
        self.height = max([height_of(tree) for tree in rules.ends + rules.steps])
        self.end_wants = [Want(tree, self.gaps) for tree in rules.ends]
        self.step_wants = [Want(tree, self.gaps) for tree in rules.steps]
        self.gap_wants = [Want(tree, self.gaps) for _, tree in self.gaps]
        self.gaps_by_word = {}
        for number, (word, _) in enumerate(self.gaps):
            self.gaps_by_word.setdefault(word, []).append(number)


def find_gaps(rules):
    """All different branches of all nodes of the rules, ascending."""
    rows = sorted([branch for tree in rules.ends + rules.steps for row in laid_out(tree) for branch in row[0][1]])
    # Branches are nested too deep to be kept in a set, so likes are found side by side.
    return tuple([row for number, row in enumerate(rows) if number == 0 or row != rows[number - 1]])


def plan_depths(rules):
    """A plan in which each step costs the level of its call."""
    return Plan(rules, [call_level(step) for step in rules.steps])


def plan_steps(rules):
    """A plan in which each step costs one."""
    return Plan(rules, [1 for _ in rules.steps])


def cheapest(plan, state):
    """The least cost of an unfolding whose tree a node in this state fits, and that unfolding; None for none."""
    found = [(0, (number,)) for number, want in enumerate(plan.end_wants) if _is_met(want, state)]
    for number, want in enumerate(plan.step_wants):
        if _is_met(want, state):
            cost, unfolding = state[1][want.call]
            found.append((plan.costs[number] + cost, (number,) + unfolding))
    return min(found, default=None)


def root_state(plan, tree, inner=None):
    """The state of the root of a tree; in a body, the call also has all of an inner state."""
    rows = laid_out(tree)
    below = [[] for _ in rows]
    for number in range(len(rows) - 1, 0, -1):
        node, above, word = rows[number]
        below[above].append((word, _node_state(plan, node, below[number], inner)))
    return _node_state(plan, tree, below[0], inner)


def unfolded_state(plan, rules, unfolding):
    """The state of the root of an unfolding's tree."""
    state = root_state(plan, rules.ends[unfolding[-1]])
    for step in reversed(unfolding[:-1]):
        state = root_state(plan, rules.steps[step], state)
    return state


def _node_state(plan, node, below, inner):
    """The state of a node; below are the words of its branches with the states of the nodes there."""
    marks = node[0]
    gains = [None for _ in plan.gaps]
    if len(node) == 3:
        marks = joined_marks(marks, inner[0])
        gains = list(inner[1])
    for word, state in below:
        best = cheapest(plan, state)
        for number in plan.gaps_by_word.get(word, ()):
            gains[number] = _lesser(gains[number], _gain(plan.gap_wants[number], state, best))
    return marks, gains


def _gain(want, state, best):
    """What a branch to a node in this state gains for a gap that wants this; best is the node's own choice."""
    if not _is_met(want, state):
        return None
    if want.call is None:
        return FREE
    return best if want.call == HERE else state[1][want.call]


def _is_met(want, state):
    marks, gains = state
    return has_marks(marks, want.marks) and all([gains[number] is not None for number in want.needs])


def _lesser(one, other):
    if one is None or other is None:
        return other if one is None else one
    return min(one, other)
