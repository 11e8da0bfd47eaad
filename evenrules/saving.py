"""Saving: what trees and shelves keep for the blocks of trials."""


class Saved:
    """What a tree or a shelf was when a block began, and what was saved for the block around it."""

    def __init__(self, state, before):
        self.state = state
        self.before = before
