"""Measuring: how often each way of each work is gone in a run."""

from fewsaves.runs import gone_through
from fewsaves.works import ways_of


def measured(works, number, boxes, choices, most):
    """For each work the list of how often its ways are gone in that run of meant, as ways_of has them."""
    gone = gone_through(works, number, boxes, choices, most, False).gone
    return [[gone.get((at, way), 0) for way in ways_of(work)] for at, work in enumerate(works)]
