"""Looks: how many set out along each passage in a plan, and how many come to the ends of walks."""

from leavehall.walks import length_of


def set_out(passages, plan, moment):
    counts = [0] * len(passages)
    for passage, number, first, last in spans_of(passages, plan):
        if first <= moment <= last:
            counts[passage] += number
    return counts


def come_out(passages, plan, moment):
    people = 0
    for walk, number, first, last in plan:
        last_in_time = min(last, moment - length_of(passages, walk))
        people += number * max(0, last_in_time - first + 1)
    return people


def most_at_once(passages, plan):
    changes = [[] for passage in passages]
    for passage, number, first, last in spans_of(passages, plan):
        changes[passage].append((first, number))
        changes[passage].append((last + 1, -number))
    return [highest(changes_here) for changes_here in changes]


def spans_of(passages, plan):
    # Those of one walk come to each of its passages one after another, without a gap, as they set
    # out: so (passage, number, first, last) tells all of them, however many moments there are.
    spans = []
    for walk, number, first, last in plan:
        later = 0
        for passage in walk:
            spans.append((passage, number, first + later, last + later))
            later += passages[passage][3]
    return spans


def highest(changes):
    # Sorted, what is less from a moment on stands ahead of what is more from it on: so the count is
    # never above what it is once all changes of that moment are reckoned in.
    count = 0
    most = 0
    for moment, change in sorted(changes):
        count += change
        most = max(most, count)
    return most
