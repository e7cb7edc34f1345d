"""Taking calls out of the one list that they are written into."""


class CallReader:
    """Goes along the list from its beginning and leaves it as it is."""

    def __init__(self, calls):
        self.calls = calls
        self.position = 0

    def has_more(self):
        return self.position < len(self.calls)

    def take_whole(self):
        value = self.calls[self.position]
        self.position += 1
        return value

    def take_list(self):
        begin = self.position + 1
        self.position = begin + self.calls[self.position]
        return self.calls[begin:self.position]
