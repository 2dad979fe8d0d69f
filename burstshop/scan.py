"""Reading a text sign by sign, or line by line."""

from burstshop.errors import InvalidText


class Scan:
    """A text and the index up to which it has been read."""

    def __init__(self, text):
        if not isinstance(text, str):
            raise InvalidText(-1)
        self.text = text
        self.at = 0

    def is_at(self, allowed):
        """Tell whether the next sign is an allowed one."""
        sign = self.text[self.at:self.at + 1]
        return sign != "" and sign in allowed

    def take(self, allowed):
        """Read one sign and return it, or refuse it if it is not an allowed one."""
        if not self.is_at(allowed):
            raise InvalidText(self.at)
        self.at += 1
        return self.text[self.at - 1]

    def finish(self):
        """Refuse what has not been read."""
        if self.at < len(self.text):
            raise InvalidText(self.at)


class LineScan:
    """The lines of a text and how many of them have been read."""

    def __init__(self, text):
        if not isinstance(text, str):
            raise InvalidText(0)
        # What stands behind the last newline is no line, or one that is not ended.
        self.lines = text.split("\n")
        self.many = 0

    def is_at(self, word):
        """Tell whether the next line begins with a word."""
        return self.lines[self.many].split(" ")[0] == word

    def take(self):
        """Read one line and return its words, or refuse it if it is missing or not ended."""
        self.many += 1
        if self.many == len(self.lines):
            self.refuse()
        return self.lines[self.many - 1].split(" ")

    def refuse(self):
        """Refuse the line that has been read last."""
        raise InvalidText(self.many)

    def finish(self):
        """Refuse what has not been read."""
        if self.lines[self.many:] != [""]:
            raise InvalidText(self.many + 1)
