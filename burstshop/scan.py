"""Reading a text sign by sign."""

from burstshop.errors import InvalidText


class Scan:
    """A text and the index up to which it has been read."""

    def __init__(self, text):
        if not isinstance(text, str):
            raise InvalidText(-1)
        self.text = text
        self.at = 0

    def take(self, allowed):
        """Read one sign and return it, or refuse it if it is not an allowed one."""
        sign = self.text[self.at:self.at + 1]
        if sign == "" or sign not in allowed:
            raise InvalidText(self.at)
        self.at += 1
        return sign

    def finish(self):
        """Refuse what has not been read."""
        if self.at < len(self.text):
            raise InvalidText(self.at)
