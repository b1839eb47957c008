"""Fewest turns: within how many so many people can come out, by which plan, and why not sooner."""

from leavehall.plans import moments_of
from leavehall.pushes import best_flow, steps_of
from leavehall.walks import length_of, walks_of


def fewest_turns(many, passages, start, goal, people):
    steps = steps_of(many, passages, start, goal)
    if not steps:
        return None
    turns = turns_by(steps, people)
    flow = best_flow(many, passages, start, goal, turns)
    plan = plan_for(passages, walks_of(passages, start, goal, flow), turns, people)
    # Who is on the way for all the turns adds nothing to one turn fewer, and takes nothing away:
    # so this flow is a best one for that number of turns, too.
    return turns, plan, moments_of(many, passages, start, goal, turns - 1, flow)


def turns_by(steps, people):
    # By the first so many steps alone amount * (turns + 1) - cost come out, which is as many as
    # people just from the turns on that are reckoned here. A step that is longer than turns would
    # take away: so what comes out at all is the most of these, and the fewest turns are the ones.
    amount = 0
    cost = 0
    needed = []
    for length, many in steps:
        amount += many
        cost += many * length
        needed.append((people + cost - 1) // amount)
    return min(needed)


def plan_for(passages, walks, turns, people):
    # The walks may bring out more than the people: so along one of them fewer set out at last, and
    # nobody along those behind it.
    plan = []
    waiting = people
    for walk, number in walks:
        moments = turns - length_of(passages, walk) + 1
        full = min(moments, waiting // number)
        if full > 0:
            plan.append((walk, number, 0, full - 1))
            waiting -= number * full
        if full < moments and waiting > 0:
            plan.append((list(walk), waiting, full, full))
            waiting = 0
    return plan
