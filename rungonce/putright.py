"""Slips that put a renaming right."""

from rungonce.basics import undone_steps
from rungonce.slips import check_renaming, fewest_by_index


def layers_and_goal(bells, lead, renaming):
    """Return a pair: what slips lead to from rounds, for each index, and what they must lead to, to put this right.

    Raise the first error that applies.
    """
    check_renaming(bells, lead, renaming)
    # What slips do to the works is the same whichever bells do these: begun with a renaming, they lead to this
    # followed by the row to which they lead from rounds.
    return fewest_by_index(bells, lead), tuple(undone_steps(renaming))


def notes_for(bells, lead, renaming):
    """Return any slips, as few as can be, that put a renaming right."""
    layers, goal = layers_and_goal(bells, lead, renaming)
    return layers[-1][goal][0]


def right_by(bells, lead, renaming):
    """Return the tuple with, for each change, the fewest such slips with indices up to that of the change."""
    layers, goal = layers_and_goal(bells, lead, renaming)
    return tuple([len(found[goal][0]) for found in layers])
