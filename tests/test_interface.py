"""The names and arguments that the interface lists exist as they are written there."""

import importlib
import inspect
import unittest

from kindhall import errors
from kindhall.hall import Hall

FUNCTIONS = """
thoughts is_name(text) depth(thought) parts(thought) named(sayings)
reading read_thought(text) read_saying(text)
showing show_thought(thought) show_saying(saying)
worlds points_of(world,thought)
rows plain(saying)
keeping breach(world,row) keeps(world,saying)
leads led(world,other)
telling roll(world,other,p,q)
steps follows(book,log,step) sound(book,log)
closing closed(book,asked,log=None)
chains place(log,conclusion) chain(log,conclusion) leaned(log) freed(log,number)
building least(book,asked,log=None) clash(book,log=None)
asking granted(row) goal(row) whether(book,saying,log=None) grounds(book,saying,log=None) otherwise(book,saying,log=None)
patterns answers(book,pattern,log=None)
trees told_pairs(book,log=None) tree(book,log=None)
homes above(tree_told,word) nearest(tree_told,one,other) homes(book,thing,log=None)
crossings crossings(sets)
whys why(book,saying) whys(book,doubted,saying) needless(book) lean(book)
"""
METHODS = """put(text) take(number) book() ask(text) grounds_of(text) other_world(text) reason(text) reasons(doubted,text)
pairs_now() tree_now() homes_of(thing) answers_to(pattern) lean_now() least_now(asked)""".split()
REFUSALS = "NoText TooDeep NoKind NoThing NoSaying TooMany Full".split()


def shape_of(name, function, left=0):
    """How a function is written in the interface."""
    return f"{name}({','.join(str(one) for one in list(inspect.signature(function).parameters.values())[left:])})"


class Interface(unittest.TestCase):
    def test_functions(self):
        for row in FUNCTIONS.strip().split("\n"):
            name, *shapes = row.split(" ")
            module = importlib.import_module(f"kindhall.{name}")
            for shape in shapes:
                function = getattr(module, shape.split("(")[0])
                self.assertTrue(inspect.isfunction(function), shape)
                self.assertEqual(function.__module__, f"kindhall.{name}")
                self.assertEqual(shape_of(function.__name__, function), shape)

    def test_the_hall(self):
        own = vars(Hall)
        for shape in METHODS:
            name = shape.split("(")[0]
            self.assertEqual(shape_of(name, own[name], 1), shape)
        self.assertEqual(shape_of("Hall", Hall), "Hall()")
        self.assertEqual(Hall.__module__, "kindhall.hall")

    def test_refusals(self):
        self.assertTrue(issubclass(errors.HallError, ValueError))
        classes = [getattr(errors, name) for name in REFUSALS]
        for one in classes:
            self.assertEqual(one.__bases__, (errors.HallError,))
            for other in classes:
                self.assertEqual(issubclass(one, other), one is other)


if __name__ == "__main__":
    unittest.main()
