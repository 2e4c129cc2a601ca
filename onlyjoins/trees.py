"""Trees and bodies: what they are, what is in them, and whether a tree fits another one."""

CALL = "call"
LONGEST_WORD = 8
MOST_MARKS = 3
MOST_BRANCHES = 3
MOST_NODES = 6
MOST_LEVEL = 3


def is_word(thing):
    """Tell whether any value is a word."""
    if not isinstance(thing, str) or not 1 <= len(thing) <= LONGEST_WORD:
        return False
    return all(["a" <= letter <= "z" for letter in thing])


def are_words(thing, least, most):
    """Tell whether any value is an ascending tuple of different words, of no fewer and no more than so many."""
    if not isinstance(thing, tuple) or not least <= len(thing) <= most:
        return False
    if not all([is_word(word) for word in thing]):
        return False
    return all([word < later for word, later in zip(thing, thing[1:])])


def is_tree(thing):
    """Tell whether any value is a tree."""
    return _is_shape(thing, 0)


def is_body(thing):
    """Tell whether any value is a body."""
    return _is_shape(thing, 1)


def _is_shape(thing, calls):
    """Tell whether any value is like a tree, with just so many calls."""
    counts = _counts(thing, 0)
    return counts is not None and counts[0] <= MOST_NODES and counts[1] == calls


def _counts(thing, level):
    """Count the nodes and the calls from a node on; None if it is no node at this level."""
    if level > MOST_LEVEL or not _is_node(thing, level):
        return None
    nodes, calls = 1, len(thing) - 2
    for branch in thing[1]:
        if not _is_pair(branch) or not is_word(branch[0]):
            return None
        below = _counts(branch[1], level + 1)
        if below is None:
            return None
        nodes += below[0]
        calls += below[1]
    return nodes, calls


def _is_node(thing, level):
    """Tell whether any value is a node, whatever its branches are."""
    if not _is_pair(thing) and not (level > 0 and _is_call(thing)):
        return False
    marks, branches = thing[0], thing[1]
    return are_words(marks, 0, MOST_MARKS) and isinstance(branches, tuple) and len(branches) <= MOST_BRANCHES


def _is_pair(thing):
    return isinstance(thing, tuple) and len(thing) == 2


def _is_call(thing):
    # The kind is asked first: a value of another kind may say of itself that it equals all.
    return isinstance(thing, tuple) and len(thing) == 3 and isinstance(thing[2], str) and thing[2] == CALL


def call_level(tree):
    """Level of the call in a body, or in a branch's tree; None if there is no call."""
    if len(tree) == 3:
        return 0
    levels = [call_level(below) for _, below in tree[1]]
    found = [level + 1 for level in levels if level is not None]
    return found[0] if found else None


def height_of(tree):
    """Greatest level of a node in a tree or body that is no greater than the document lets."""
    return max([1 + height_of(below) for _, below in tree[1]], default=0)


def laid_out(tree):
    """The nodes of a tree of any size from the root on, each followed by those below it.

    Each is a triple: the node, the number of the one above it, and the word of the branch between them.
    """
    rows = []
    waiting = [(tree, -1, "")]
    while waiting:
        row = waiting.pop()
        number = len(rows)
        rows.append(row)
        for word, below in reversed(row[0][1]):
            waiting.append((below, number, word))
    return rows


def fits_root(tree, pattern):
    """Tell whether the root of a tree, as a store, fits a pattern; both may be of any size."""
    if not has_marks(tree[0], pattern[0]):
        return False
    # A list holds the way down, as trees of unfoldings may be deeper than calls should be.
    # Of each pair of nodes: both rows of branches, how many of the pattern's branches have
    # been found, and from which of the tree's branches on the next one is looked for.
    path = [[tree[1], pattern[1], 0, 0]]
    while True:
        branches, wanted, found, start = path[-1]
        if found < len(wanted):
            number = _first_like(branches, wanted[found], start)
            if number < len(branches):
                path[-1][3] = number + 1
                path.append([branches[number][1][1], wanted[found][1][1], 0, 0])
                continue
        fits = found == len(wanted)
        path.pop()
        if not path:
            return fits
        if fits:
            path[-1][2] += 1
            path[-1][3] = 0


def _first_like(branches, wanted, start):
    """Number of the first branch, from start on, with a wanted one's word and marks; else how many there are."""
    word, (marks, _) = wanted
    for number in range(start, len(branches)):
        if branches[number][0] == word and has_marks(branches[number][1][0], marks):
            return number
    return len(branches)


def has_marks(marks, wanted):
    """Tell whether all the marks that are wanted are there."""
    return not wanted or len(set(wanted) - set(marks)) == 0


def joined_marks(marks, others):
    """The marks of both, each once, ascending."""
    return tuple(sorted(set(marks + others)))
