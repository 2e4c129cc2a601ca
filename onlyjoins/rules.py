"""Rules: ends that choose nodes by what lies below, and steps that call for a chosen one there."""

from onlyjoins.errors import BadNumber, BadRules
from onlyjoins.trees import is_body, is_tree

MOST_ENDS = 3
MOST_STEPS = 3


class Rules:
    """Ends and steps; they never change."""

    def __init__(self, ends, steps=()):
        if not _is_row(ends, 1, MOST_ENDS) or not _is_row(steps, 0, MOST_STEPS):
            raise BadRules(None)
        for number, end in enumerate(ends):
            if not is_tree(end):
                raise BadRules(("end", number))
        for number, step in enumerate(steps):
            if not is_body(step):
                raise BadRules(("step", number))
        self.ends = tuple(ends)
        self.steps = tuple(steps)

    def __eq__(self, other):
        return isinstance(other, Rules) and self.ends == other.ends and self.steps == other.steps

    def with_end(self, tree):
        """The rules with a further end."""
        # A wrong tree counts ahead of there being too many ends.
        if not is_tree(tree):
            raise BadRules(("end", len(self.ends)))
        return Rules(self.ends + (tree,), self.steps)

    def with_step(self, body):
        """The rules with a further step."""
        if not is_body(body):
            raise BadRules(("step", len(self.steps)))
        return Rules(self.ends, self.steps + (body,))

    def without_end(self, number):
        """The rules without one of their ends, but not without the only one."""
        if len(self.ends) == 1 or not is_number(number, len(self.ends)):
            raise BadNumber(number)
        return Rules(_without(self.ends, number), self.steps)

    def without_step(self, number):
        """The rules without one of their steps."""
        if not is_number(number, len(self.steps)):
            raise BadNumber(number)
        return Rules(self.ends, _without(self.steps, number))


def is_number(thing, many):
    """Tell whether any value is the number of one of so many items."""
    return isinstance(thing, int) and not isinstance(thing, bool) and 0 <= thing < many


def _is_row(thing, least, most):
    return isinstance(thing, (list, tuple)) and least <= len(thing) <= most


def _without(items, number):
    return items[:number] + items[number + 1:]
