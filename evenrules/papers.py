"""What papers share: how many may stand in one, and the base of those that tell yes or no."""

MOST_PAPERS = 5000


class Verdict:
    """A paper whose truth is its answer; each class below tells its own."""
