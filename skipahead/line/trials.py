"""Blocks at whose end an object is as it was before."""


class Trial:
    """A block for an object that keeps what changes in _now, as a value with a method copied."""

    def __init__(self, owner):
        self._owner = owner
        self._top = None

    def __enter__(self):
        # A chain, as one trial may be entered again within its own block.
        self._top = Kept(self._owner._now, self._top)
        self._owner._now = self._owner._now.copied()
        return self._owner

    def __exit__(self, kind, value, trace):
        self._owner._now = self._top.earlier
        self._top = self._top.below


class Kept:
    """What an object was when a block began, and the same of the block around this one."""

    def __init__(self, earlier, below):
        self.earlier = earlier
        self.below = below
