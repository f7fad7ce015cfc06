"""How the tests look at a refusal."""

import unittest

from tonguegate import errors


class RefusalCase(unittest.TestCase):

    def assert_refused(self, refusal, asked, *handed):
        """Asked so, it is refused with just this class: under GateError and ValueError, under none of the others."""
        with self.assertRaises(ValueError) as caught:
            asked(*handed)
        raised = type(caught.exception)
        self.assertIs(raised, refusal)
        self.assertTrue(issubclass(raised, errors.GateError))
        for name, other in vars(errors).items():
            if isinstance(other, type) and other not in (refusal, errors.GateError):
                self.assertFalse(issubclass(raised, other), name)
