"""What a keeper wants to propose."""


class Want:
    """A step, the hops that go along with it, and for whose sake it is wanted."""

    def __init__(self, what, *, more=(), wait=None, comer=None):
        self.what = what
        self.more = more
        # The own pay or gift that waits for it, or the tuple (book, lock) that is handed on by it.
        self.wait = wait
        self.comer = comer
