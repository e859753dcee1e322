"""Desks for the tests."""

from laidsheets.desk import Desk


def make(desk, event):
    """Makes an event by the method that it is named after."""
    return {"read": desk.read, "say": desk.say, "drop": desk.drop}[event[0]](*event[1:])


def made(pile, events):
    desk = Desk(pile)
    for event in events:
        make(desk, event)
    return desk
