"""Blocks that take back what was done on a desk."""


class Trial:
    """A block whose end takes back all that was done in it."""

    def __init__(self, desk):
        self.desk = desk
        self.held_sheet = None
        self.held_presses = None

    def __enter__(self):
        self.held_sheet = self.desk.laid
        self.held_presses = self.desk.standing
        return self

    def __exit__(self, kind, value, trace):
        desk = self.desk
        desk.laid = self.held_sheet
        desk.standing = self.held_presses


class Batch:
    """A block that stands as a whole or, if an error ends it, not at all."""

    def __init__(self, desk):
        self.desk = desk
        self.kept = None
        self.held_sheet = None
        self.held_presses = None

    def __enter__(self):
        self.held_sheet = self.desk.laid
        self.held_presses = self.desk.standing
        return self

    def __exit__(self, kind, value, trace):
        desk = self.desk
        if kind is None:
            self.kept = True
        else:
            self.kept = False
            desk.laid = self.held_sheet
            desk.standing = self.held_presses
