"""The net of a table: its parts, whether it hangs together, and its beat."""

from foreverrows.errors import NoWhole
from foreverrows.fractions import common_number
from foreverrows.reach import all_meet_all, met_from
from foreverrows.tables import nexts_of


def parts_of(table):
    """The parts of a table as sorted lists of places, by their least places."""
    nexts = nexts_of(table)
    places = list(range(len(table)))
    met = [met_from(nexts, place) for place in places]
    parts = []
    for place in places:
        part = [other for other in places if other == place or (other in met[place] and place in met[other])]
        if part[0] == place:
            parts.append(part)
    return parts


def hangs_together(table):
    """Whether a walk leads from each place to each, also to itself."""
    return all_meet_all(nexts_of(table))


def require_whole(table):
    """Refuse a table that does not hang together."""
    if not hangs_together(table):
        raise NoWhole("the table does not hang together")


def is_ring(table):
    """Whether the table hangs together and from each place just one arrow leads."""
    return hangs_together(table) and all([sum(row) == 1 for row in table])


def beat_of(table):
    """A tuple (beat, numbers) of a table that hangs together."""
    require_whole(table)
    nexts = nexts_of(table)
    steps = steps_from_first(nexts)
    beat = 0
    for place, behind in enumerate(nexts):
        for other in behind:
            # Two walks to one place, gone on with alike, differ by a number that the beat divides.
            beat = common_number(beat, steps[place] + 1 - steps[other])
    return (beat, [steps[place] % beat for place in range(len(table))])


def steps_from_first(nexts):
    """For each place how many arrows a shortest walk from the place 0 has; 0 for that one itself."""
    steps = {0: 0}
    for place, ahead in met_from(nexts, 0).items():
        if place != 0:
            steps[place] = steps[ahead] + 1
    return steps
