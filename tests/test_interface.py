"""The names and arguments that the program is to be asked by."""

import importlib
import inspect
import unittest

FUNCTIONS = """
halls.look_at_hall many passages start goal
pushes.steps_of many passages start goal
pushes.best_flow many passages start goal turns
pushes.amount_of passages start flow
pushes.cost_of passages flow
walks.walks_of passages start goal flow
walks.length_of passages walk
plans.out_within many passages start goal turns
plans.bound_of passages moments
looks.set_out passages plan moment
looks.come_out passages plan moment
looks.most_at_once passages plan
fewest.fewest_turns many passages start goal people
named.NamedHall start goal
named.NamedHall.lay self name a b width length
named.NamedHall.shut self name
named.NamedHall.widen self name more
named.NamedHall.narrow self name less
named.NamedHall.rooms self
named.NamedHall.passages self
named.NamedHall.out self turns
named.NamedHall.turns_for self people
named.NamedHall.worth self name turns
desk.Desk
desk.Desk.say self line
"""


def found(path):
    names = path.split(".")
    thing = importlib.import_module("leavehall." + names[0])
    for name in names[1:]:
        thing = getattr(thing, name)
    return thing


class InterfaceTest(unittest.TestCase):
    def test_arguments(self):
        for line in FUNCTIONS.split("\n")[1:-1]:
            path, *arguments = line.split(" ")
            with self.subTest(path):
                parameters = inspect.signature(found(path)).parameters.values()
                self.assertEqual([parameter.name for parameter in parameters], arguments)
                self.assertEqual({parameter.default for parameter in parameters} - {inspect.Parameter.empty}, set())


if __name__ == "__main__":
    unittest.main()
