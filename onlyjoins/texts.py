"""Texts of trees, bodies and rules, and what such texts tell."""

from onlyjoins.errors import BadText, BadTree
from onlyjoins.rules import MOST_ENDS, MOST_STEPS, Rules
from onlyjoins.trees import CALL, MOST_NODES, is_body, is_tree

END_WORD = "end"
STEP_WORD = "step"


def tree_text(tree):
    """The text of a tree or body."""
    if not is_tree(tree) and not is_body(tree):
        raise BadTree(tree)
    return _node_text(tree)


def read_tree(text):
    """The tree or body that a text tells."""
    _need_text(text)
    tree = _told_tree(text)
    if tree is None:
        raise BadText(1)
    return tree


def rules_text(rules):
    """The text of rules: a line for each end, and then one for each step."""
    ends = [f"{END_WORD} {_node_text(end)}" for end in rules.ends]
    steps = [f"{STEP_WORD} {_node_text(step)}" for step in rules.steps]
    return "\n".join(ends + steps)


def read_rules(text):
    """The rules that a text tells."""
    _need_text(text)
    ends, steps = [], []
    for number, line in enumerate(text.split("\n"), start=1):
        word, _, told = line.partition(" ")
        tree = _told_tree(told)
        if word == END_WORD and is_tree(tree) and not steps and len(ends) < MOST_ENDS:
            ends.append(tree)
        elif word == STEP_WORD and is_body(tree) and ends and len(steps) < MOST_STEPS:
            steps.append(tree)
        else:
            raise BadText(number)
    return Rules(ends, steps)


def _need_text(thing):
    if not isinstance(thing, str):
        raise BadText(None)


def _node_text(node):
    """The text of a node and of all below it."""
    sign = "!" if len(node) == 3 else ""
    text = sign + ("+".join(node[0]) or "-")
    if not node[1]:
        return text
    branches = ",".join([f"{word}>{_node_text(below)}" for word, below in node[1]])
    return f"{text}({branches})"


def _told_tree(text):
    """The tree or body of which this is the text, None for none."""
    # Each node but the root stands behind a sign of its own, so few signs are few nodes.
    if text.count(">") >= MOST_NODES:
        return None
    tree, _ = _seeming_node(text, 0)
    # Whatever was read, the text that it has itself tells whether it is the one.
    if (is_tree(tree) or is_body(tree)) and _node_text(tree) == text:
        return tree
    return None


def _seeming_node(text, start):
    """What seems to be the node that is written from a place on, and the place behind it."""
    after = _next_bound(text, start)
    written = text[start:after]
    branches = []
    bound = "("
    while text[after:after + 1] == bound:
        sign = text.find(">", after)
        if sign == -1:
            break
        below, behind = _seeming_node(text, sign + 1)
        branches.append((text[after + 1:sign], below))
        after = behind
        bound = ","
    if branches:
        # A row of branches ends in a bracket.
        after += 1
    if written.startswith("!"):
        return (_seeming_marks(written[1:]), tuple(branches), CALL), after
    return (_seeming_marks(written), tuple(branches)), after


def _seeming_marks(text):
    return () if text == "-" else tuple(text.split("+"))


def _next_bound(text, start):
    """The place, from one on, of the first sign that may stand behind the marks of a node."""
    places = [text.find(sign, start) for sign in "(,)"]
    return min([place for place in places if place != -1], default=len(text))
