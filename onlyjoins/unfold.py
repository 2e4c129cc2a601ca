"""Unfoldings: rows of steps with an end, their trees, and which of them a tree fits."""

from onlyjoins.errors import BadUnfolding
from onlyjoins.plans import cheapest, plan_depths, plan_steps, root_state, unfolded_state
from onlyjoins.rules import is_number
from onlyjoins.trees import call_level, joined_marks

MOST_DEPTH = 130


def is_unfolding(rules, thing):
    """Tell whether any value is an unfolding of the rules that may be passed."""
    return is_unfolding_at_all(rules, thing) and sum_levels(rules, thing) <= MOST_DEPTH


def tree_of(rules, unfolding):
    """The tree of an unfolding."""
    need_unfolding(rules, unfolding)
    return build_tree(rules, unfolding)


def depth_of(rules, unfolding):
    """The depth of an unfolding: the levels of its steps' calls together."""
    need_unfolding(rules, unfolding)
    return sum_levels(rules, unfolding)


def earliest(rules, tree):
    """The lowest depth of an unfolding whose tree the root of a tree fits, None for none."""
    return _least_cost(plan_depths(rules), tree)


def fewest(rules, tree):
    """The fewest steps of an unfolding whose tree the root of a tree fits, None for none."""
    return _least_cost(plan_steps(rules), tree)


def shorter(rules, unfolding):
    """An unfolding that shortens this one, None for none."""
    need_unfolding(rules, unfolding)
    plan = plan_depths(rules)
    depth, found = cheapest(plan, unfolded_state(plan, rules, unfolding))
    return found if depth < sum_levels(rules, unfolding) else None


def need_unfolding(rules, thing):
    """Refuse what is no unfolding of the rules."""
    if not is_unfolding(rules, thing):
        raise BadUnfolding(thing)


def is_unfolding_at_all(rules, thing):
    """Tell whether any value is an unfolding of the rules, of any depth."""
    if not isinstance(thing, tuple) or len(thing) == 0:
        return False
    return are_steps(rules, thing[:-1]) and is_number(thing[-1], len(rules.ends))


def are_steps(rules, things):
    """Tell whether all of the things are numbers of steps."""
    return all([is_number(thing, len(rules.steps)) for thing in things])


def sum_levels(rules, unfolding):
    """The depth of an unfolding of any depth."""
    levels = [call_level(step) for step in rules.steps]
    return sum([levels[step] for step in unfolding[:-1]])


def build_tree(rules, unfolding):
    """The tree of an unfolding of any depth."""
    tree = rules.ends[unfolding[-1]]
    for step in reversed(unfolding[:-1]):
        tree = _put_at_call(rules.steps[step], tree)
    return tree


def _put_at_call(body, tree):
    """The body with a tree joined to its call."""
    if len(body) == 3:
        return joined_marks(body[0], tree[0]), body[1] + tree[1]
    if call_level(body) is None:
        return body
    return body[0], tuple([(word, _put_at_call(below, tree)) for word, below in body[1]])


def _least_cost(plan, tree):
    best = cheapest(plan, root_state(plan, tree))
    return None if best is None else best[0]
