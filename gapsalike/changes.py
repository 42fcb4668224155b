"""Changes from one text to another."""


def common(one, two):
    """The length of the longest common beginning of two strings."""
    most = min(len(one), len(two))
    for k in range(most):
        if one[k] != two[k]:
            return k
    return most


def change(one, two):
    """The change (offset, removed, inserted) from one string to another, or None."""
    if one == two:
        return None
    offset = common(one, two)
    # The common end stands behind the common beginning: they never overlap.
    before = one[offset:]
    after = two[offset:]
    same = common(before[::-1], after[::-1])
    return offset, len(before) - same, after[:len(after) - same]


def changed(one, told):
    """The string that a string becomes by a change, or by none."""
    if told is None:
        return one
    offset, removed, inserted = told
    return one[:offset] + inserted + one[offset + removed:]
