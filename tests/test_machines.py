"""Points 4 and 130: machines, what they are made of and what they tell."""

import copy
import unittest

from eachstepsame.machines import Machine
from tests.helper import FLAG, shown, things

R0, R1, F0, F3 = ("reg", 0), ("reg", 1), ("frame", 0), ("frame", 3)

HELP = (0, 0, (((), ("back", ("truth", True))),))
MAIN = (2, 4, (
    ((("tick",), ("op", R0, "add", None, (F0, ("num", 1))), ("move", F3, R0), ("log", ("truth", False)),
      ("op", R1, "make", FLAG, (("truth", True), R0))), ("branch", F0, 1, 2)),
    ((("op", R1, "make", ("row", 2), (R0, R0)),), ("risk", "pick", None, (R1, F3), F0, 3, (("range", 2), ("end", 4)))),
    ((), ("raise", "oops")),
    ((), ("jump", 5)),
    ((), ("risk", "call", "help", (), R0, 3, ())),
    ((("move", R1, ("num", -7)),), ("back", R1)),
))


def listed(thing):
    """The same with a list for each tuple, at any depth; keys of dicts stay."""
    if isinstance(thing, (list, tuple)):
        return [listed(part) for part in thing]
    return {key: listed(part) for key, part in thing.items()} if isinstance(thing, dict) else thing


class Machines(unittest.TestCase):
    def test_what_it_tells(self):
        machine = Machine({"main": MAIN, "help": HELP, "a": HELP, "z": HELP})
        self.assertEqual(machine.names(), ["a", "help", "main", "z"])
        self.assertEqual(shown(machine.told()), shown((("a", HELP), ("help", HELP), ("main", MAIN), ("z", HELP))))
        self.assertEqual(shown(machine.functions), shown({"main": MAIN, "help": HELP, "a": HELP, "z": HELP}))
        self.assertIs(machine.functions.__class__, dict)
        self.assertIs(machine.names().__class__, list)
        self.assertIs(machine.told().__class__, tuple)

    def test_lists_for_tuples(self):
        whole = Machine({"main": MAIN, "help": HELP})
        self.assertEqual(shown(Machine(listed({"main": MAIN, "help": HELP})).told()), shown(whole.told()))
        self.assertEqual(shown(Machine({"main": list(MAIN), "help": HELP}).told()), shown(whole.told()))

    def test_a_list_at_each_place(self):
        def with_one(thing, path):
            """The thing with a list for the tuple to which the path leads."""
            if not path:
                return list(thing)
            return thing[:path[0]] + (with_one(thing[path[0]], path[1:]),) + thing[path[0] + 1:]

        paths, waiting = [], [(MAIN, ())]
        while waiting:
            thing, path = waiting.pop()
            if isinstance(thing, tuple):
                paths.append(path)
                waiting += [(part, path + (place,)) for place, part in enumerate(thing)]
        self.assertGreater(len(paths), 40)
        for path in paths:
            machine = Machine({"main": with_one(MAIN, path)})
            self.assertEqual(shown(machine.told()), shown((("main", MAIN),)), path)
            self.assertEqual(shown(machine.functions), shown({"main": MAIN}), path)

    def test_width(self):
        self.assertEqual(Machine({}).width(), 0)
        self.assertEqual(Machine({"main": HELP}).width(), 1)
        self.assertEqual(Machine({"main": MAIN}).width(), 13)
        self.assertEqual(Machine({"main": HELP, "a": MAIN, "z": HELP}).width(), 13)
        self.assertEqual(Machine({"main": MAIN, "z": (0, 0, (((("tick",),) * 13, ("raise", "a")),))}).width(), 14)
        self.assertEqual(Machine({"main": (0, 0, ())}).width(), 0)

    def test_no_functions(self):
        machine = Machine({})
        self.assertEqual((machine.names(), machine.told(), machine.functions), ([], (), {}))

    def test_what_is_changed_later(self):
        handed = listed({"main": MAIN, "help": HELP})
        machine = Machine(handed)
        kept, width = shown(machine.told()), machine.width()
        handed["main"][2][0][0][1][2] = "sub"
        handed["main"][2][0][0].append(["tick"])
        handed["main"][2].pop()
        handed["help"][0] = 7
        handed["more"] = handed.pop("main")
        self.assertEqual(shown(machine.told()), kept)
        self.assertEqual((machine.names(), machine.width()), (["help", "main"], width))
        self.assertEqual(shown(machine.functions), shown({"main": MAIN, "help": HELP}))

    def test_what_is_handed_in_stays(self):
        handed = listed({"main": MAIN, "help": HELP})
        kept = copy.deepcopy(handed)
        Machine(handed).told()
        self.assertEqual(shown(handed), shown(kept))

    def test_what_is_told_is_the_askers_own(self):
        machine = Machine({"main": MAIN, "help": HELP})
        kept = shown(machine.told())
        machine.names().clear()
        machine.functions.clear()
        self.assertEqual(shown(machine.told()), kept)
        self.assertEqual((machine.names(), machine.width()), (["help", "main"], 13))

    def test_any_dict(self):
        for thing in things():
            self.assertIsInstance(Machine({"main": thing}), Machine)
            self.assertEqual(Machine({"main": thing, "a": thing}).names(), ["a", "main"])
            if isinstance(thing, dict):
                self.assertIsInstance(Machine(thing), Machine)

    def test_a_dict_within_is_not_shared(self):
        inner = {"a": [1]}
        machine = Machine({"main": [inner]})
        inner["a"].append(2)
        inner["b"] = 3
        self.assertEqual(shown(machine.functions), shown({"main": ({"a": (1,)},)}))


if __name__ == "__main__":
    unittest.main()
