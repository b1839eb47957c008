"""Halls: whether rooms, passages, a start and a goal make up a hall."""

from leavehall.errors import NoHall


def look_at_hall(many, passages, start, goal):
    if many < 2 or start == goal or not is_room(many, start) or not is_room(many, goal):
        raise NoHall(None)
    for number, passage in enumerate(passages):
        if not is_passage(many, passage):
            raise NoHall(number)


def is_room(many, room):
    return 0 <= room < many


def is_passage(many, passage):
    a = passage[0]
    b = passage[1]
    if a == b or not is_room(many, a) or not is_room(many, b):
        return False
    return passage[2] >= 1 and passage[3] >= 1
