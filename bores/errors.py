"""The refusals: each class stands under BoreError, and under none of the others."""


class BoreError(ValueError):
    pass


class NoText(BoreError):
    pass


class Unfit(BoreError):
    pass


class Unknown(BoreError):
    pass


class Twice(BoreError):
    pass


class Clash(BoreError):
    def __init__(self, numbers, ring):
        BoreError.__init__(self, "these records have a ring")
        # Copies, so that what is done later to the lists handed in changes nothing here.
        self.numbers = list(numbers)
        self.ring = list(ring)
