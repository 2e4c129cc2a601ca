"""Views: of each unfolding as much as further steps ahead of it can tell."""

from onlyjoins.plans import find_gaps, plan_depths, unfolded_state
from onlyjoins.trees import call_level
from onlyjoins.unfold import need_unfolding, sum_levels


def gaps(rules):
    """All different branches of all nodes of the rules' ends and steps, ascending."""
    return find_gaps(rules)


def view(rules, unfolding):
    """The view of an unfolding: its depth up to the height of the rules, its marks, and its gains."""
    need_unfolding(rules, unfolding)
    plan = plan_depths(rules)
    return view_of_state(plan, unfolded_state(plan, rules, unfolding), sum_levels(rules, unfolding))


def view_of_state(plan, state, depth):
    """The view of an unfolding of this depth, the root of whose tree is in this state under a plan of depths."""
    marks, gains = state
    shown = [_shown_gain(call_level(gap[1]), gain, depth) for gap, gain in zip(plan.gaps, gains)]
    return min(depth, plan.height), marks, tuple(shown)


def _shown_gain(call, gain, depth):
    """How a view tells a gain for a gap whose call lies at this level below the branch, None for no call."""
    if call is None:
        return gain is not None
    if gain is None:
        return None
    # The branch itself leads one level down; from the call on, the cost is a depth.
    return max(-1, 1 + call + gain[0] - depth)
