"""How the bodies of a run end ahead of their last statement: by a fault, or by the stop of the whole run."""


class Fault(Exception):
    """A fault, a tuple that tells what it is; a try may hold it up."""

    def __init__(self, fault):
        Exception.__init__(self, "a fault that no try held up")
        self.fault = fault


class Stopped(Exception):
    """As many statements as told have begun; no try holds this up."""
