"""Plans: how many come out within so many turns, by which walks, and why no more can."""

from leavehall.pushes import best_flow, left_behind, moves_of, reach
from leavehall.walks import length_of, walks_of


def out_within(many, passages, start, goal, turns):
    # No walk of this flow is longer than turns, since best_flow pushes along no longer way.
    flow = best_flow(many, passages, start, goal, turns)
    walks = walks_of(passages, start, goal, flow)
    people = sum([number * (turns - length_of(passages, walk) + 1) for walk, number in walks])
    return people, walks, moments_of(many, passages, start, goal, turns, flow)


def bound_of(passages, moments):
    bound = 0
    for a, b, width, length in passages:
        bound += width * max(0, moments[b] - moments[a] - length)
    return bound


def moments_of(many, passages, start, goal, turns, flow):
    # A room's moment is the length of the shortest way to it that the flow leaves. So a passage
    # that is not full adds nothing to the bound, and all that are full add up to how many come out.
    # The passage laid here brings nobody out in time; but without it the rooms of the walks behind
    # full passages would not be reached, and all of them would get the last moment.
    late = turns + 1
    with_late = passages + [(start, goal, 1, late)]
    left = left_behind(with_late, flow + [0])
    reached = reach(moves_of(many, with_late), left, start)
    return [late if known is None else min(known[0], late) for known in reached]
