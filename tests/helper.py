"""What the tests of all modules need."""

import copy
import random


class Still(list):
    """A list that can't be changed: handed in, it shows that nothing is changed, not for a while either."""

    def refuse(self, *args, **kwargs):
        raise AssertionError("a list that was handed in was changed")

    append = extend = insert = remove = pop = clear = sort = reverse = refuse
    __setitem__ = __delitem__ = __iadd__ = __imul__ = refuse


def stilled(thing):
    if isinstance(thing, list):
        return Still([stilled(part) for part in thing])
    if isinstance(thing, tuple):
        return tuple([stilled(part) for part in thing])
    return thing


def lists_within(thing):
    """All lists in a list or tuple, itself too."""
    found = [thing] if isinstance(thing, list) else []
    if isinstance(thing, (list, tuple)):
        for part in thing:
            found += lists_within(part)
    return found


def spoil(thing):
    """Change each list, the inner ones too."""
    for found in lists_within(thing):
        found.insert(0, "spoiled")
        if len(found) > 1:
            found[-1] = "spoiled"


def check_own(case, deed, *handed):
    """What is handed in stays; what is told is new and the asker's own. Told is the answer."""
    kept = copy.deepcopy(handed)
    handed = copy.deepcopy(handed)
    first = deed(*handed)
    case.assertEqual(handed, kept)
    answer = copy.deepcopy(first)

    of_still = deed(*stilled(kept))
    case.assertEqual(of_still, answer)
    for found in lists_within(of_still):
        case.assertIs(list, found.__class__, "a list that was handed in is told")
    told_lists = lists_within(first)
    case.assertEqual(len(told_lists), len({id(found) for found in told_lists}), "one list is told twice")

    spoil(first)
    case.assertEqual(handed, kept)
    second = deed(*handed)
    case.assertEqual(second, answer)

    spoil(handed)
    case.assertEqual(second, answer)
    case.assertEqual(deed(*kept), answer)
    return answer


def check_refused(case, error, deed, *handed):
    """The very refusal is raised, and nothing that was handed in is changed."""
    kept = copy.deepcopy(handed)
    with case.assertRaises(error) as caught:
        deed(*stilled(handed))
    case.assertIs(error, caught.exception.__class__)
    with case.assertRaises(error):
        deed(*handed)
    case.assertEqual(handed, kept)


def chance(seed):
    """Inputs of all forms, the same in each run."""
    return random.Random(seed)


def grid_by_chance(lot, many, wide, most):
    return [[lot.randint(-most, most) for column in range(wide)] for row in range(many)]


SHAPES = [(many, wide) for many in range(1, 9) for wide in range(1, 9)]


def table_by_chance(lot):
    """A table of one to six places, some with few arrows, some with many."""
    many = lot.randint(1, 6)
    table = [[0] * many for row in range(many)]
    for arrow in range(lot.choice([many, many + 2, 2 * many, 40])):
        table[lot.randrange(many)][lot.randrange(many)] += 1
    return table


def steps_needed(table, i, j):
    """How many arrows, one at least, lead from i to j, or None: by the places reached in so many steps."""
    reached = {i}
    for steps in range(1, len(table) + 1):
        reached = {end for place in reached for end in range(len(table)) if table[place][end] > 0}
        if j in reached:
            return steps
    return None
