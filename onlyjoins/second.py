"""A second way to tell whether the calls are ever needed: by plain unfolding."""

from onlyjoins.errors import BadNumber
from onlyjoins.plans import cheapest, plan_depths, root_state
from onlyjoins.rules import is_number
from onlyjoins.unfold import depth_of, tree_of

MOST_STEPS = 6


def never_needed_too(rules, most):
    """Tell whether all unfoldings with just so many steps are shortened."""
    if not is_number(most, MOST_STEPS + 1) or most == 0:
        raise BadNumber(most)
    plan = plan_depths(rules)
    for unfolding in _with_many_steps(rules, most):
        least, _ = cheapest(plan, root_state(plan, tree_of(rules, unfolding)))
        if least == depth_of(rules, unfolding):
            return False
    return True


def _with_many_steps(rules, many):
    """All unfoldings with just so many steps."""
    found = [(number,) for number in range(len(rules.ends))]
    for _ in range(many):
        found = [(step,) + unfolding for step in range(len(rules.steps)) for unfolding in found]
    return found
