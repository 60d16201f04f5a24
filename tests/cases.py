"""What the tests of several modules have in common: calls of functions, looked at from all sides that [3] names."""

import copy
import inspect
import unittest


def kept_in(thing):
    """All lists and dicts in a value, itself too."""
    found = [thing] if isinstance(thing, (list, dict)) else []
    parts = thing if isinstance(thing, (list, tuple)) else ()
    if isinstance(thing, dict):
        parts = tuple(thing.items())
    for part in parts:
        found += kept_in(part)
    return found


class ToldCase(unittest.TestCase):
    def check_interface(self, module, signatures):
        """The functions stand in the file of the module, with these parameters."""
        for name, parameters in signatures.items():
            function = vars(module)[name]
            self.assertEqual(function.__module__, module.__name__)
            self.assertEqual(list(inspect.signature(function).parameters), parameters)
            self.assertTrue(all(one.default is one.empty for one in inspect.signature(function).parameters.values()))

    def call(self, function, *told):
        """What a function returns: new each time, always the same, with ascending keys; no argument is changed."""
        before = repr(told)
        first = function(*told)
        shown = repr(first)
        self.spoil(first)
        found = function(*copy.deepcopy(told))
        self.assertEqual(repr(found), shown, (function, before[:500]))
        self.assertEqual(repr(told), before, function)
        return found

    def spoil(self, thing):
        """Change all lists and dicts in a value, no two of which may be one, nor have keys that do not ascend."""
        kept = kept_in(thing)
        self.assertEqual(len({id(part) for part in kept}), len(kept))
        for part in kept:
            if isinstance(part, dict):
                self.assertEqual(list(part), sorted(part))
        for part in kept:
            part.clear()

    def check(self, wanted, function, *told):
        """What a function returns is this very value."""
        self.assertEqual(repr(self.call(function, *told)), repr(wanted), (function, repr(told)[:1000]))

    def caught(self, kind, function, *told):
        """The error of just this class that a function raises: always the same, of new values."""
        before = repr(told)
        first = self.raised(kind, function, told)
        shown = repr(vars(first))
        for worth in vars(first).values():
            self.spoil(worth)
        found = self.raised(kind, function, copy.deepcopy(told))
        self.assertEqual(repr(vars(found)), shown, (function, before[:500]))
        self.assertEqual(repr(told), before, function)
        return found

    def check_papers(self, kind, paper, calls):
        """Each of the calls, tuples of a function and its arguments, raises such an error with a paper like this."""
        for function, *told in calls:
            self.assertEqual(repr(self.caught(kind, function, *told).paper), repr(paper))

    def raised(self, kind, function, told):
        with self.assertRaises(kind, msg=(function, repr(told)[:500])) as found:
            function(*told)
        self.assertIs(type(found.exception), kind)
        return found.exception
