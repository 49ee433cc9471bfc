"""The refusal of wishes that a web does not join."""

from nearenough.errors import NearError


class Parted(NearError):
    """Wishes that all ties together do not join; wish is the number of the first such."""

    def __init__(self, wish):
        NearError.__init__(self, f"no ties join the wish {wish}")
        self.wish = wish
