"""What the tests share: calls made in each way that the document allows, and values of all kinds."""

import unittest

# Values that are nothing in particular; calls that take any value must bear them all.
ODD_VALUES = (
    None, True, False, 0, 1, -1, 5, 10 ** 60, -(10 ** 399), 10 ** 399,
    "", "7", "7 11", "in", "is 5", "-", " ", "\n", "x" * 20000,
    (), [], {}, [7], [7, 11], {"in": 0}, {0: 7}, {7: 11, 13: 17},
    (None,), (True,), ("",), ("7",), ((),), ([],), ({},), ((7,),), ([7],), ("in",), ("is",), ("is", None),
    (None, None), ("7", "11"), ((7,), (11,)), (None, None, None), ((), (), ()), ([], {}, ""), ({}, 0, 0), ([], 0, 0),
    ((((((((((),),),),),),),),),), (0,) * 4000, (None,) * 4000,
)


class Outcome:
    """What a call came to: what it returned, or the error that it raised."""

    def __init__(self, function, places, names):
        self.returned, self.error = None, None
        try:
            self.returned = function(*places, **names)
        except ValueError as error:
            self.error = error

    def written(self):
        if self.error is None:
            return repr(self.returned)
        told = ", ".join(repr(told) for told in vars(self.error).values())
        return f"raises {self.error.__class__.__name__}({told})"


class LaneTest(unittest.TestCase):
    maxDiff = None

    def assert_same(self, got, told):
        """Compare as the document does: True is not 1, and a list is no tuple."""
        self.assertEqual(repr(got), repr(told))

    def outcome(self, function, named):
        """Call by place and by name, twice each; all must come to the same and change nothing."""
        ahead = repr(named)
        places = tuple(named.values())
        outcomes = [Outcome(function, places, {}), Outcome(function, (), named),
                    Outcome(function, places, {}), Outcome(function, (), named)]
        written = [outcome.written() for outcome in outcomes]
        self.assertEqual(written, [written[0]] * 4, (function.__name__, ahead[:200]))
        self.assertEqual(repr(named), ahead, "what was handed in was changed")
        return outcomes[0]

    def tell(self, function, **named):
        """Return what a call returns; the names stand in the order of the document."""
        outcome = self.outcome(function, named)
        if outcome.error is not None:
            raise outcome.error
        return outcome.returned

    def refuse(self, written, function, **named):
        """Check that a call raises the error that is written, as "BadText()"."""
        self.assertEqual(self.outcome(function, named).written(), "raises " + written, repr(named)[:200])


def edits_of(text, signs):
    """Return texts one edit away: a sign left out, doubled, exchanged with the next one, replaced, put in."""
    edited = {text}
    for at in range(len(text) + 1):
        ahead, behind = text[:at], text[at:]
        edited |= {ahead + behind[1:], ahead + behind[:1] + behind, ahead + behind[1:2] + behind[:1] + behind[2:]}
        for sign in signs:
            edited |= {ahead + sign + behind, ahead + sign + behind[1:]}
    return sorted(edited)
