"""Desks: a rule and a mode kept under edits."""

from clearsheets.best import best
from clearsheets.bounds import MAX_COUNTED, MAX_EDITS
from clearsheets.counted import fewest
from clearsheets.errors import BadMode, BadRule, Full, NoGroup, NothingToUndo, TooMany
from clearsheets.kinds import is_mode
from clearsheets.rules import checked_rule, rule_error
from clearsheets.ways import is_group


class Desk:
    """Keeps a rule and a mode, and the edits in effect."""

    def __init__(self, rule, mode):
        checked_rule(rule)
        if not is_mode(mode):
            raise BadMode(mode)
        if rule[0] > MAX_COUNTED:
            raise TooMany(MAX_COUNTED)
        # The pair at first and the one behind each edit in effect: to take one back is to drop the last.
        self._stages = ((rule, mode),)
        self._changed = "same"

    @property
    def rule(self):
        """Return the rule as it stands."""
        return self._stages[-1][0]

    @property
    def mode(self):
        """Return the mode as it stands."""
        return self._stages[-1][1]

    @property
    def version(self):
        """Return how many edits are in effect."""
        return len(self._stages) - 1

    @property
    def changed(self):
        """Return how the contrast has changed with the last edit or undo."""
        return self._changed

    def contrast(self):
        """Return the greatest contrast of ways that keep the rule."""
        if not self.rule[1]:
            return (1, 1)
        return best(self.rule, self.mode)[0]

    def way(self):
        """Return a way with the fewest dots that keeps the rule."""
        return fewest(self.rule, self.mode)[1]

    def show(self, group):
        """Let the group see, and return the new version."""
        self._refuse_more()
        holders, shows, hides = self.rule
        return self._edit((holders, _added(holders, shows, group), hides), self.mode)

    def unshow(self, group):
        """Let it no longer matter whether the group sees, and return the new version."""
        self._refuse_more()
        holders, shows, hides = self.rule
        return self._edit((holders, _taken(holders, shows, group), hides), self.mode)

    def hide(self, group):
        """Let the group learn nothing, and return the new version."""
        self._refuse_more()
        holders, shows, hides = self.rule
        return self._edit((holders, shows, _added(holders, hides, group)), self.mode)

    def unhide(self, group):
        """Let it no longer matter whether the group learns something, and return the new version."""
        self._refuse_more()
        holders, shows, hides = self.rule
        return self._edit((holders, shows, _taken(holders, hides, group)), self.mode)

    def turn(self, mode):
        """Take another mode, or the same one, and return the new version."""
        self._refuse_more()
        if not is_mode(mode):
            raise BadMode(mode)
        return self._edit(self.rule, mode)

    def undo(self):
        """Take the last edit in effect back, and return the new version."""
        if self.version == 0:
            raise NothingToUndo()
        return self._enter(self._stages[:-1])

    def tried(self, function):
        """Return what the function returns for this desk, which stands behind the call as it was ahead of it."""
        stages, changed = self._stages, self._changed
        try:
            return function(self)
        finally:
            self._stages, self._changed = stages, changed

    def _refuse_more(self):
        """Raise Full if no more edits may come into effect."""
        if self.version >= MAX_EDITS:
            raise Full()

    def _edit(self, rule, mode):
        """Bring the rule and the mode into effect, and return the new version."""
        if rule_error(rule) is not None:
            raise BadRule(None, "barred")
        return self._enter(self._stages + ((rule, mode),))

    def _enter(self, stages):
        """Let the desk stand as these stages tell, and return the version."""
        before = self.contrast()
        self._stages = stages
        self._changed = _change(before, self.contrast())
        return self.version

    def __len__(self):
        return len(self.rule[1] + self.rule[2])

    def __eq__(self, other):
        return isinstance(other, Desk) and self.rule == other.rule and self.mode == other.mode

    def __str__(self):
        return ", ".join([f"{self.rule[0]} holders", f"{len(self.rule[1])} shows", f"{len(self.rule[2])} hides",
                          self.mode, f"version {self.version}"])


def _added(holders, some, group):
    """Return the groups with this one, which may be a value of any kind."""
    if not is_group(holders, group):
        raise BadRule(None, "group")
    if group in some:
        raise BadRule(None, "twice")
    return tuple(sorted(some + (group,)))


def _taken(holders, some, group):
    """Return the groups without this one, which may be a value of any kind."""
    # (True,) is no group, though Python takes it for (1,).
    if not is_group(holders, group) or group not in some:
        raise NoGroup(group)
    return tuple([other for other in some if other != group])


def _change(before, after):
    """Return whether the fraction after is more or less than before, or the same."""
    first, second = before[0] * after[1], after[0] * before[1]
    if first == second:
        return "same"
    return "more" if first < second else "less"
