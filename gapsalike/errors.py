"""The error that the program raises."""


class GapsError(ValueError):
    """A call that the document names as an error, with the reason it names."""

    def __init__(self, reason):
        ValueError.__init__(self, reason)
        self.reason = reason
