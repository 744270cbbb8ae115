"""What tests of several files ask alike."""

import signal
import sys
import unittest

from heardhouse.errors import HouseError
from tests.house import ANYTHING, CASE, claim, motion, paper

NO_CASES = ANYTHING + ((), CASE[:3], list(CASE), CASE[1:] + CASE[:1])
NO_PAPERS = (
    None, (), (claim(1),), claim(1), {1: claim(1)}, "", [None], [claim(1), None], [list(claim(1))],
    [claim(0)], [claim(True)], [claim(1, day=-1)], [claim(1, rests=((1, 0),))], [motion(1, None)],
    [motion(1, 1)], [claim(1), claim(1, by="Ann")], [[claim(1)]], [claim(1)[:6]],
    [paper(1, "ann", "claim", words=(("said", "shut"),))],
)
# An empty list is a list of whatever is wanted.
BUT_NO_LIST = tuple(thing for thing in ANYTHING if not isinstance(thing, list) or thing)
NO_DAYS = (-1, True, False, "0", 0.0, None, (0,), [0], float("nan")) + ANYTHING


class Asking(unittest.TestCase):
    def refused(self, error, ask, *given):
        """The very class of error is told, and nothing else comes of the question."""
        with self.assertRaises(HouseError) as caught:
            ask(*given)
        self.assertIs(type(caught.exception), error, given)
        self.assertEqual(error.__bases__, (HouseError,))


class Soon:
    """A while in which an answer is wanted; it is long, since machines are unlike."""

    def __init__(self, seconds=60):
        self.seconds = seconds

    def __enter__(self):
        signal.signal(signal.SIGALRM, self.ring)
        signal.alarm(self.seconds)

    def __exit__(self, kind, value, trace):
        signal.alarm(0)

    def ring(self, number, frame):
        raise AssertionError("no answer came soon")


def steps_of(ask, *given):
    """How many calls a question makes, which is the same each time, as no clock is."""
    many = [0]

    def count(frame, event, thing):
        many[0] += event in ("call", "c_call")

    sys.setprofile(count)
    try:
        ask(*given)
    finally:
        sys.setprofile(None)
    return many[0]
