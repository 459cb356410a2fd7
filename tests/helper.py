"""What the tests of all modules need."""

import copy
import itertools
import math
import random


class Still(list):
    """A list that can't be changed: handed in, it shows that nothing is changed, not for a while either."""

    def refuse(self, *args, **kwargs):
        raise AssertionError("a list that was handed in was changed")

    append = extend = insert = remove = pop = clear = sort = reverse = refuse
    __setitem__ = __delitem__ = __iadd__ = __imul__ = refuse


def stilled(thing):
    if isinstance(thing, list):
        return Still([stilled(part) for part in thing])
    if isinstance(thing, tuple):
        return tuple([stilled(part) for part in thing])
    return thing


def lists_within(thing):
    """All lists in a list or tuple, itself too."""
    found = [thing] if isinstance(thing, list) else []
    if isinstance(thing, (list, tuple)):
        for part in thing:
            found += lists_within(part)
    return found


def spoil(thing):
    """Change each list, the inner ones too."""
    for found in lists_within(thing):
        found.insert(0, "spoiled")
        if len(found) > 1:
            found[-1] = "spoiled"


def check_own(case, deed, *handed):
    """What is handed in stays; what is told is new and the asker's own. Told is the answer."""
    kept = copy.deepcopy(handed)
    handed = copy.deepcopy(handed)
    first = deed(*handed)
    case.assertEqual(handed, kept)
    answer = copy.deepcopy(first)

    of_still = deed(*stilled(kept))
    case.assertEqual(of_still, answer)
    for found in lists_within(of_still):
        case.assertIs(list, found.__class__, "a list that was handed in is told")
    told_lists = lists_within(first)
    case.assertEqual(len(told_lists), len({id(found) for found in told_lists}), "one list is told twice")

    spoil(first)
    case.assertEqual(handed, kept)
    second = deed(*handed)
    case.assertEqual(second, answer)

    spoil(handed)
    case.assertEqual(second, answer)
    case.assertEqual(deed(*kept), answer)
    return answer


def check_refused(case, error, deed, *handed):
    """The very refusal is raised, and nothing that was handed in is changed."""
    kept = copy.deepcopy(handed)
    with case.assertRaises(error) as caught:
        deed(*stilled(handed))
    case.assertIs(error, caught.exception.__class__)
    with case.assertRaises(error):
        deed(*handed)
    case.assertEqual(handed, kept)


def chance(seed):
    """Inputs of all forms, the same in each run."""
    return random.Random(seed)


def grid_by_chance(lot, many, wide, most):
    return [[lot.randint(-most, most) for column in range(wide)] for row in range(many)]


SHAPES = [(many, wide) for many in range(1, 9) for wide in range(1, 9)]


def by_orders(grid):
    """The determinant through all orders of the columns."""
    whole = 0
    for order in itertools.permutations(range(len(grid))):
        turns = sum([order[i] > order[j] for j in range(len(order)) for i in range(j)])
        part = (-1) ** turns
        for row, column in enumerate(order):
            part *= grid[row][column]
        whole += part
    return whole


def by_minors(grid):
    """The corners, each the common number of the minors of so many rows, over that of one fewer."""
    told = []
    ahead = 1
    for many in range(1, min(len(grid), len(grid[0])) + 1):
        common = 0
        for rows in itertools.combinations(range(len(grid)), many):
            for columns in itertools.combinations(range(len(grid[0])), many):
                common = math.gcd(common, by_orders([[grid[i][j] for j in columns] for i in rows]))
        told.append(common // ahead if common else 0)
        ahead = common if common else 1
    return told


def table_by_chance(lot):
    """A table of one to six places, some with few arrows, some with many."""
    many = lot.randint(1, 6)
    table = [[0] * many for row in range(many)]
    for arrow in range(lot.choice([many, many + 2, 2 * many, 40])):
        table[lot.randrange(many)][lot.randrange(many)] += 1
    return table


def steps_needed(table, i, j):
    """How many arrows, one at least, lead from i to j, or None: by the places reached in so many steps."""
    reached = {i}
    for steps in range(1, len(table) + 1):
        reached = {end for place in reached for end in range(len(table)) if table[place][end] > 0}
        if j in reached:
            return steps
    return None


def reader_by_chance(lot, marks, single):
    """A reader of one to six places; a single one reads one way."""
    many = lot.randint(1, 6)
    signs = "abcd"[:marks]
    if single:
        begun = [(place, mark) for place in range(many) for mark in signs]
        begun = lot.sample(begun, lot.randint(0, len(begun)))
        return (many, sorted([(place, mark, lot.randrange(many)) for place, mark in begun]))
    every = [(i, mark, j) for i in range(many) for mark in signs for j in range(many)]
    arrows = lot.sample(every, min(len(every), lot.choice([many, many + 2, 2 * many, 3 * many, 30])))
    return (many, sorted(arrows))


def whole_readers(seed, many):
    """Readers that hang together, every other one reading one way."""
    lot = chance(seed)
    made = []
    while len(made) < many:
        reader = reader_by_chance(lot, lot.randint(1, 4), len(made) % 2 == 0)
        table = [[0] * reader[0] for row in range(reader[0])]
        for start, mark, end in reader[1]:
            table[start][end] += 1
        places = range(reader[0])
        if all([steps_needed(table, i, j) is not None for i in places for j in places]):
            made.append(reader)
    return made


def marked_ends(reader, places, mark):
    """The places to which the mark leads from one of the places."""
    return frozenset([end for start, sign, end in reader[1] if sign == mark and start in places])


def ends_of_word(reader, places, word):
    for mark in word:
        places = marked_ends(reader, places, mark)
    return places


def parting_of_sets(one, places, other, beside):
    """The first word of the shortest that is read from just one of two sets of places, and which; or None.

    All words of one length are gone through before any longer one, those that lead to sets met already left out.
    """
    level = {(frozenset(places), frozenset(beside)): ""}
    met = set(level)
    while level:
        found = []
        longer = {}
        for (left, right), word in level.items():
            for mark in "abcd":
                pair = (marked_ends(one, left, mark), marked_ends(other, right, mark))
                if bool(pair[0]) != bool(pair[1]):
                    found.append((word + mark, 0 if pair[0] else 1))
                elif pair[0] and pair not in met:
                    longer[pair] = min(longer.get(pair, word + mark), word + mark)
        if found:
            return min(found)
        met.update(longer)
        level = longer
    return None


def arrows_in(table):
    return [(i, j, k) for i, row in enumerate(table) for j, entry in enumerate(row) for k in range(entry)]


def small_table_by_chance(lot):
    """A table of one to four places with few arrows, so that its rows can be gone through."""
    many = lot.randint(1, 4)
    return [[lot.choice([0, 0, 1, 1, 2, 3]) for entry in range(many)] for row in range(many)]


def pieces_by_chance(lot, arrows):
    """Two or more pieces of the arrows, in any order; None where there are too few arrows."""
    if len(arrows) < 2:
        return None
    arrows = lot.sample(arrows, len(arrows))
    cuts = sorted(lot.sample(range(1, len(arrows)), lot.randint(1, min(3, len(arrows) - 1))))
    return [arrows[low:high] for low, high in zip([0] + cuts, cuts + [len(arrows)])]


def splittings_by_chance(lot, table):
    """Some moves out and in that can be done."""
    made = []
    for word, at in (("out", 0), ("in", 1)):
        for p in range(len(table)):
            pieces = pieces_by_chance(lot, [arrow for arrow in arrows_in(table) if arrow[at] == p])
            if pieces is not None:
                made.append((word, p, pieces))
    return made


def base_of(move, many, place):
    """The place of which a place is a piece, of many places in all ahead of the splitting."""
    return move[1] if place >= many else place


def piece_of(move, many, place):
    """The arrows of the piece that a place is, or None."""
    if place == move[1]:
        return move[2][0]
    return move[2][place - many + 1] if place >= many else None


def splitting_related(table, move):
    """All arrows of the new table, each with the one arrow for which it stands, by the words of [33]."""
    many = len(table)
    places = range(many + len(move[2]) - 1)
    related = {}
    for i in places:
        for j in places:
            own = piece_of(move, many, i if move[0] == "out" else j)
            bases = (base_of(move, many, i), base_of(move, many, j))
            held = [arrow for arrow in arrows_in(table) if arrow[:2] == bases and (own is None or arrow in own)]
            related.update({(i, j, k): [arrow] for k, arrow in enumerate(held)})
    return related


def joining_related(table, move):
    """All arrows of the new table, each with those that become it, by the words of [34]."""
    word, p, m = move
    own, other = (0, 1) if word == "join out" else (1, 0)
    joined = [p] + list(range(len(table) - m, len(table)))
    counted = {}
    related = {}
    for place in joined + [place for place in range(len(table)) if place not in joined]:
        ahead = dict(counted)
        for arrow in [arrow for arrow in arrows_in(table) if arrow[own] == place]:
            ends = [p if end in joined else end for end in arrow[:2]]
            # Those to (or from) the last places become what the like ones to (from) p become.
            number = arrow[2] + ahead.get(tuple(ends), 0)
            if arrow[other] == ends[other]:
                counted[tuple(ends)] = counted.get(tuple(ends), 0) + 1
            related.setdefault((ends[0], ends[1], number), []).append(arrow)
    return related


def swap_related(table, move):
    exchanged = {move[1]: move[2], move[2]: move[1]}
    return {(exchanged.get(i, i), exchanged.get(j, j), k): [(i, j, k)] for i, j, k in arrows_in(table)}


def split_related(table, move):
    """All arrows of the new table, each with a list of those of the old one that it may be led to or from."""
    if move[0] == "swap":
        return swap_related(table, move)
    if move[0] in ("out", "in"):
        return splitting_related(table, move)
    return joining_related(table, move)


def table_of_arrows(arrows):
    """The table that has these arrows, which are numbered without gaps."""
    many = max([max(arrow[:2]) for arrow in arrows], default=0) + 1
    table = [[0] * many for row in range(many)]
    for i, j, k in arrows:
        table[i][j] = max(table[i][j], k + 1)
    return table


def hangs_by_steps(table):
    """Whether a walk leads from each place to each, also to itself."""
    places = range(len(table))
    return all([steps_needed(table, i, j) is not None for i in places for j in places])


def flowing_tables(seed, many):
    """Tables of one to four places and at most sixteen arrows that hang together and are no rings.

    Every third one has just one arrow more than a ring.
    """
    lot = chance(seed)
    made = []
    while len(made) < many:
        places = lot.randint(1, 4)
        table = [[0] * places for row in range(places)]
        arrows = lot.randint(places + 1, 16)
        if len(made) % 3 == 0:
            order = lot.sample(range(places), places)
            for one, other in zip(order, order[1:] + order[:1]):
                table[one][other] += 1
            arrows = 1
        for arrow in range(arrows):
            table[lot.randrange(places)][lot.randrange(places)] += 1
        if hangs_by_steps(table):
            made.append(table)
    return made


def looping_tables(seed, many):
    """Such tables in which most arrows lead from a place to itself, so that all signs are met."""
    lot = chance(seed)
    made = []
    while len(made) < many:
        places = lot.randint(2, 4)
        table = [[lot.randint(1, 4) if i == j else lot.choice([0, 0, 1]) for j in range(places)] for i in range(places)]
        if sum([sum(row) for row in table]) <= 16 and hangs_by_steps(table):
            made.append(table)
    return made


def is_full(table):
    places = range(len(table))
    return all([table[i][j] >= (2 if i == j else 1) for i in places for j in places])


def added_by_arrows(table, word, i, j):
    """The table behind a single addition, by its arrows and the words of [41]; None where it can't be done."""
    arrows = [arrow[:2] for arrow in arrows_in(table)]
    gone = (i, j) if word == "row" else (j, i)
    if i == j or gone not in arrows:
        return None
    arrows.remove(gone)
    to_j = [arrow for arrow in arrows if arrow[1] == j]
    from_j = [arrow for arrow in arrows if arrow[0] == j]
    if not to_j or not from_j:
        return None
    if word == "row":
        arrows += [(i, end) for start, end in from_j]
    else:
        arrows += [(start, i) for start, end in to_j]
    return [[arrows.count((one, other)) for other in range(len(table))] for one in range(len(table))]


def additions_by_chance(lot, table):
    """Some single additions that can be done."""
    every = [(word, i, j) for word in ("row", "column") for i in range(len(table)) for j in range(len(table))]
    fit = [thing for thing in every if added_by_arrows(table, *thing) is not None]
    return [(*thing, 1) for thing in lot.sample(fit, min(3, len(fit)))]


def draws_by_chance(lot, table):
    """Some draws and lays that can be done."""
    made = []
    for p, row in enumerate(table):
        if len(table) > 1 and row[p] == 0 and any(row) and any([other[p] for other in table]):
            made.append(("draw", p))
    for time in range(8):
        ins = [lot.choice([0, 0, 1, 2]) for row in table]
        outs = [lot.choice([0, 0, 1, 2]) for row in table]
        fits = all([entry >= x * y for row, x in zip(table, ins) for entry, y in zip(row, outs)])
        if any(ins) and any(outs) and fits:
            made.append(("lay", lot.randint(0, len(table)), ins, outs))
    return made


def joinings_in(table):
    """All joinings that can be done, by the words of [34]."""
    made = []
    many = len(table)
    for word, rows in (("join out", table), ("join in", [list(column) for column in zip(*table)])):
        for p in range(many):
            for m in range(1, many - p):
                joined = [p] + list(range(many - m, many))
                same = all([row[place] == row[p] for row in rows for place in joined])
                if same and all([any(rows[place]) for place in joined]):
                    made.append((word, p, m))
    return made


def moves_by_chance(lot, table):
    """Some moves of all nine words, so far as they can be done."""
    made = splittings_by_chance(lot, table) + joinings_in(table) + draws_by_chance(lot, table)
    made += additions_by_chance(lot, table)
    # The ways back of additions.
    for word, i, j, q in additions_by_chance(lot, table):
        row = table if word == "row" else [list(column) for column in zip(*table)]
        if all([x >= y for x, y in zip(row[i], row[j])]) and sum([other[j] for other in row]) > row[j][j]:
            made.append((word, i, j, -1))
    if len(table) > 1:
        made.append(("swap", *lot.sample(range(len(table)), 2)))
    return made


NINE_WORDS = {"swap", "out", "in", "join out", "join in", "draw", "lay", "row", "column"}
