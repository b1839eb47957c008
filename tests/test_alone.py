"""Nothing hangs on a clock, chance or files: another process, elsewhere, answers the same."""

import os
import subprocess
import sys
import tempfile
import unittest

from tests import helper

QUESTION = """
from leavehall.desk import Desk
from leavehall.errors import NoHall
from leavehall.fewest import fewest_turns
from leavehall.halls import look_at_hall
from leavehall.looks import come_out, most_at_once, set_out
from leavehall.plans import bound_of, out_within
from leavehall.pushes import amount_of, best_flow, cost_of, steps_of
from leavehall.walks import length_of, walks_of
from tests import helper
for seed in range(10):
    for hall in (helper.small_hall(seed), helper.thick_hall(seed, 3, 3, 5), helper.square_hall(seed, 2, 1)):
        many, passages, start, goal = hall
        print(look_at_hall(*hall), steps_of(*hall))
        for turns in range(0, 30, 3):
            flow = best_flow(*hall, turns)
            print(flow, amount_of(passages, start, flow), cost_of(passages, flow))
            print(walks_of(passages, start, goal, flow))
            people, walks, moments = out_within(*hall, turns)
            print(people, walks, moments, bound_of(passages, moments))
            plan = [(walk, number, 0, turns - length_of(passages, walk)) for walk, number in walks]
            print(set_out(passages, plan, 2), come_out(passages, plan, turns), most_at_once(passages, plan))
        try:
            look_at_hall(many, passages + [(0, 0, 1, 1)], start, goal)
        except NoHall as error:
            print(error.place)
        print([fewest_turns(*hall, people) for people in (1, 2, 5, 30, 400)])
        name = helper.name_of
        desk = Desk()
        print(desk.say(f"hall {name(start)} {name(goal)}"))
        for number, (a, b, width, length) in enumerate(passages):
            print(desk.say(f"lay {name(number)} {name(a)} {name(b)} {width} {length}"))
        for line in ("rooms", "passages", "out 9", "walks 9", "moments 9", "turns 9"):
            print(desk.say(line))
"""


def answer(seed, folder):
    top = os.path.dirname(os.path.dirname(os.path.abspath(helper.__file__)))
    paths = [top] + [path for path in sys.path if path]
    environment = dict(os.environ, PYTHONHASHSEED=seed, PYTHONPATH=os.pathsep.join(paths))
    done = subprocess.run([sys.executable, "-c", QUESTION], cwd=folder, env=environment, check=True,
                          stdout=subprocess.PIPE, timeout=120)
    return done.stdout


class AloneTest(unittest.TestCase):
    def test_the_same_in_another_process(self):
        with tempfile.TemporaryDirectory() as folder:
            answers = {answer(seed, folder) for seed in ("0", "1", "77")}
            self.assertEqual(len(answers), 1)
            self.assertEqual(os.listdir(folder), [])


if __name__ == "__main__":
    unittest.main()
