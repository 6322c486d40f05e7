"""The base of the papers that tell yes or no."""


class Verdict:
    """A paper that is true or false; each class below tells which."""
