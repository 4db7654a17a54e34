"""The refusals: one class for each thing that can be refused."""


# Under ValueError, so that an asker who knows nothing of this package can take it too.
class SeaError(ValueError):
    pass


class BadSea(SeaError):
    pass


class BadLaying(SeaError):
    pass


class BadBounds(SeaError):
    pass
