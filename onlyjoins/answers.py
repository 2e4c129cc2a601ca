"""Answers: whether the calls are ever needed, with papers that show it, and checks of such papers."""

from onlyjoins.errors import BadPaper, Needed, TooMany
from onlyjoins.plans import cheapest, plan_depths, plan_steps, root_state, unfolded_state
from onlyjoins.trees import fits_root
from onlyjoins.unfold import are_steps, build_tree, is_unfolding, is_unfolding_at_all, shorter, sum_levels
from onlyjoins.views import view, view_of_state

NEVER = "never"
NEEDED = "needed"
MOST_OWN = 100
MOST_STEPS = 40


def never_needed(rules):
    """Tell whether the calls are never needed."""
    return _go_through(plan_depths(rules), rules)[1] is None


def verdict(rules):
    """A paper that the calls are never needed, or that they are."""
    plan = plan_depths(rules)
    states, paper = _go_through(plan, rules)
    if paper is not None:
        return paper
    return NEVER, tuple(sorted(states)), tuple(sorted(_shortened(plan, rules, states)))


def own_unfoldings(rules):
    """All own unfoldings, ascending, if the calls are never needed."""
    states, paper = _go_through(plan_depths(rules), rules)
    if paper is not None:
        raise Needed(paper)
    return tuple(sorted(states))


def least_steps(rules):
    """The least number of steps that is always enough, if the calls are never needed."""
    plan = plan_steps(rules)
    # Each unfolding's tree fits that of an own one, so the own ones tell for all.
    return max([cheapest(plan, unfolded_state(plan, rules, one))[0] for one in own_unfoldings(rules)])


def check(rules, paper):
    """The first word of a paper that holds."""
    if not isinstance(paper, tuple) or len(paper) != 3 or not isinstance(paper[0], str):
        raise BadPaper("form")
    if paper[0] == NEVER:
        _check_never(rules, paper[1], paper[2])
        return NEVER
    if paper[0] == NEEDED:
        _check_needed(rules, paper[1], paper[2])
        return NEEDED
    raise BadPaper("form")


def _go_through(plan, rules):
    """The own unfoldings with the states of their roots, and None if these are all.

    Otherwise those up to the first number of steps at which a view comes again, and the paper that shows it.
    """
    states = {}
    views = {}
    row = [((number,), root_state(plan, end)) for number, end in enumerate(rules.ends)]
    steps = 0
    while row:
        for unfolding, state in row:
            states[unfolding] = state
            views[unfolding] = view_of_state(plan, state, sum_levels(rules, unfolding))
        for unfolding, _ in row:
            # What is left of an own unfolding is own, so its views are there.
            for many in range(1, len(unfolding)):
                if views[unfolding[many:]] == views[unfolding]:
                    return states, (NEEDED, unfolding[:many], unfolding[many:])
        if len(states) > MOST_OWN or steps > MOST_STEPS:
            raise TooMany(MOST_OWN)
        row = [(longer, state) for longer, state, best in _with_steps_ahead(plan, rules, row)
               if best[0] == sum_levels(rules, longer)]
        steps += 1
    return states, None


def _with_steps_ahead(plan, rules, row):
    """Each unfolding of a row with each step ahead, its root's state, and the lowest depth that it fits."""
    found = []
    for unfolding, inner in row:
        for number, step in enumerate(rules.steps):
            state = root_state(plan, step, inner)
            found.append(((number,) + unfolding, state, cheapest(plan, state)))
    return found


def _shortened(plan, rules, states):
    """Pairs of each unfolding that is not own, but is so without its first step, and one that shortens it."""
    longer = _with_steps_ahead(plan, rules, list(states.items()))
    return [(unfolding, best[1]) for unfolding, _, best in longer if unfolding not in states]


def _check_never(rules, own, pairs):
    if not _are_closed(rules, own):
        raise BadPaper("own")
    kept = {unfolding: True for unfolding in own}
    wanted = [(step,) + unfolding for step in range(len(rules.steps)) for unfolding in own]
    wanted = sorted([longer for longer in wanted if longer not in kept])
    if not isinstance(pairs, tuple) or len(pairs) != len(wanted):
        raise BadPaper("shorter")
    # Those that are wanted all differ, so pairs in their order are ascending.
    for longer, pair in zip(wanted, pairs):
        if not _is_shortened(rules, longer, pair):
            raise BadPaper("shorter")


def _are_closed(rules, own):
    """Tell whether any value is ascending unfoldings, with each end alone and all that is left of each one."""
    if not isinstance(own, tuple) or not all([is_unfolding(rules, one) for one in own]):
        return False
    if not all([one < later for one, later in zip(own, own[1:])]):
        return False
    kept = {unfolding: True for unfolding in own}
    ends = [(number,) for number in range(len(rules.ends))]
    return all([rest in kept for rest in ends + [one[1:] for one in own if len(one) > 1]])


def _is_shortened(rules, longer, pair):
    """Tell whether any value is the pair of this longer unfolding and one that shortens it."""
    if not isinstance(pair, tuple) or len(pair) != 2:
        return False
    if not is_unfolding_at_all(rules, pair[0]) or pair[0] != longer or not is_unfolding(rules, pair[1]):
        return False
    if sum_levels(rules, pair[1]) >= sum_levels(rules, longer):
        return False
    return fits_root(build_tree(rules, longer), build_tree(rules, pair[1]))


def _check_needed(rules, loop, rest):
    if not isinstance(loop, tuple) or len(loop) == 0 or not are_steps(rules, loop):
        raise BadPaper("loop")
    if not is_unfolding(rules, rest) or not is_unfolding(rules, loop + rest):
        raise BadPaper("rest")
    # What is left of an own unfolding is own, so the whole one tells for all.
    if shorter(rules, loop + rest) is not None:
        raise BadPaper("own")
    if view(rules, loop + rest) != view(rules, rest):
        raise BadPaper("view")
