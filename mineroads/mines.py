"""The object that the calls are made on: a net, and the nets before its last changes."""

from mineroads.nets import empty_net

MOST_BEFORE = 20


class Mine:
    def __init__(self):
        self.net = empty_net()
        self.before = []

    def change(self, net):
        """Take another net; the one held till now is never changed afterwards, so it needs no copy."""
        self.before.append(self.net)
        if len(self.before) > MOST_BEFORE:
            self.before.pop(0)
        self.net = net

    def can_undo(self):
        return len(self.before) > 0

    def undo(self):
        self.net = self.before.pop()
