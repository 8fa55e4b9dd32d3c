"""Numbers that belong together."""


def groups_of(many, links):
    """The numbers below many in groups, two of them in one where links lead from one to the other.

    The numbers of a group rise, and so do the first ones of the groups.
    """
    leads = list(range(many))
    for one, other in links:
        first = _root(leads, one)
        second = _root(leads, other)
        # The lesser one leads, so that a group is met first at its root.
        leads[max(first, second)] = min(first, second)
    found = {}
    for number in range(many):
        found.setdefault(_root(leads, number), []).append(number)
    return list(found.values())


def _root(leads, number):
    while leads[number] != number:
        # What is passed is led further on, so that no way stays long.
        leads[number] = leads[leads[number]]
        number = leads[number]
    return number
