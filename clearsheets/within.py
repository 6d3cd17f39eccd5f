"""Which groups are parts of which others."""


def is_within(part, group):
    """Return whether all holders of the part are among those of the group."""
    return all([holder in group for holder in part])


def outermost(some):
    """Return those of the groups, in their order, that are parts of no other one."""
    return tuple([group for group in some if not is_covered([other for other in some if other != group], group)])


def innermost(some):
    """Return those of the groups, in their order, that have no other one as a part."""
    return tuple([group for group in some if not is_opened([other for other in some if other != group], group)])


def is_covered(some, group):
    """Return whether the group is a part of one of some."""
    return any([is_within(group, other) for other in some])


def is_opened(some, group):
    """Return whether one of some is a part of the group."""
    return any([is_within(other, group) for other in some])
