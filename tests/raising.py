"""How the tests ask for an error, to its class and its attribute, and for an answer in no noticeable time."""

import unittest
from time import perf_counter

from holdfills.errors import HoldError


class Case(unittest.TestCase):
    """A test case that can ask for an error with all that it tells."""

    def refused(self, error, told, action, *parameters, **named):
        """Check that the action raises just this error with the told attribute (or none, for NoRow)."""
        try:
            action(*parameters, **named)
        except HoldError as caught:
            self.assertIs(caught.__class__, error)
            for name, expected in told.items():
                found = getattr(caught, name)
                if name == "value":
                    # What was passed is told itself: it may be something that cannot be compared.
                    self.assertIs(found, expected)
                else:
                    self.assertEqual(found, expected)
                    self.assertIs(found.__class__, expected.__class__)
            return
        self.fail("no error was raised where %s is asked for" % error.__name__)

    def quick(self, action, *parameters):
        """Return what the action returns, and check that it took no noticeable time."""
        started = perf_counter()
        found = action(*parameters)
        self.assertLess(perf_counter() - started, 2)
        return found
