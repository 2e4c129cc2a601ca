"""Comparisons: rules held against other rules on all stores, and what of rules may be left out."""

from onlyjoins.answers import own_unfoldings
from onlyjoins.errors import TooMany
from onlyjoins.plans import cheapest, plan_steps, root_state
from onlyjoins.trees import fits_root
from onlyjoins.unfold import tree_of

MOST_VIEWS = 300
MOST_STEPS = 40


def contained(one, other):
    """Tell whether on each store each node that is chosen by one is chosen by other."""
    return parting(one, other) is None


def parting(one, other):
    """The first unfolding of one the root of whose tree is not chosen by other, None for none."""
    plan = plan_steps(other)
    # What is chosen fits the tree of an unfolding, so these trees tell for all stores.
    for unfolding, state in _first_of_views(plan, one):
        if cheapest(plan, state) is None:
            return unfolding
    return None


def alike(one, other):
    """Tell whether both rules choose the same nodes on all stores."""
    # Views are counted both ways, whatever one way tells.
    there, back = contained(one, other), contained(other, one)
    return there and back


def needless(rules):
    """The numbers of the ends, and of the steps, without which the rules are alike, each by itself."""
    # The only end is not needless: without it there are no rules.
    ends = list(range(len(rules.ends))) if len(rules.ends) > 1 else []
    needless_ends = [number for number in ends if alike(rules, rules.without_end(number))]
    needless_steps = [number for number in range(len(rules.steps)) if alike(rules, rules.without_step(number))]
    return tuple(needless_ends), tuple(needless_steps)


def joins(rules):
    """The own unfoldings without those that another one which is left does for, ascending."""
    own = own_unfoldings(rules)
    trees = [tree_of(rules, one) for one in own]
    left = list(range(len(own)))
    for number in reversed(range(len(own))):
        others = [other for other in left if other != number]
        if any([fits_root(trees[number], trees[other]) for other in others]):
            left = others
    return tuple([own[number] for number in left])


def _first_of_views(plan, rules):
    """The first unfolding of each view by the plan's rules, in order, each with the state of its root."""
    seen = set()
    found = []
    row = [((number,), root_state(plan, end)) for number, end in enumerate(rules.ends)]
    steps = 0
    while row:
        fresh = []
        for unfolding, state in row:
            view = _view_of_state(state)
            if view not in seen:
                seen.add(view)
                fresh.append((unfolding, state))
        if len(seen) > MOST_VIEWS or (fresh and steps > MOST_STEPS):
            raise TooMany(MOST_VIEWS)
        found += fresh
        # A view tells what is ahead, so a step ahead of one that came earlier gives nothing new.
        row = [((number,) + unfolding, root_state(plan, step, state))
               for number, step in enumerate(rules.steps) for unfolding, state in fresh]
        steps += 1
    return found


def _view_of_state(state):
    """The view, by other rules, of an unfolding the root of whose tree is in this state under their plan."""
    marks, gains = state
    return marks, tuple([gain is not None for gain in gains])
