"""Walks of stands, from joint to joint."""


class Walks:
    """Shortest walks between the joints of stands, and rounds that may go on for ever."""

    def __init__(self, stands):
        self.stands = stands
        leaving = {}
        for stand, joint in enumerate(stands.begins):
            leaving.setdefault(joint, []).append(stand)
        self.known = {joint: _walks_from(joint, leaving, stands.ends) for joint in leaving}
        self.inner = {joint: self._inner(joint) for joint in leaving}

    def _inner(self, home):
        """Return the list of all stands on rounds through a joint."""
        ends = self.stands.ends
        return [stand for stand, joint in enumerate(self.stands.begins)
                if joint in self.known[home] and self._leads(ends[stand], home)]

    def _leads(self, one, other):
        """Return whether a walk, perhaps of no stand, leads from one joint to the other one."""
        return one in self.known and other in self.known[one]

    def shortest(self, pairs):
        """Return the pair of joints with the shortest walk from the one to the other, or None if there is no walk."""
        found = [pair for pair in pairs if self._leads(pair[0], pair[1])]
        return min(found, key=lambda pair: len(self.between(pair[0], pair[1])), default=None)

    def between(self, one, other):
        """Return the list of the stands of a shortest walk from one joint to the other one."""
        return self.known[one][other]

    def homes(self, numbers):
        """Return the list of the joints with rounds on which none of these lines waits all along."""
        waiting = [self.stands.waiting(number) for number in numbers]
        found = []
        for home, inner in self.inner.items():
            bits = sum([1 << stand for stand in inner])
            if inner and all([bits & ~waits for waits in waiting]):
                found.append(home)
        return found

    def round_at(self, home, numbers):
        """Return a walk from one of the homes of these lines to itself on which none of them waits all along."""
        walk = []
        for number in numbers:
            waits = self.stands.waiting(number)
            if all([(waits >> stand) & 1 for stand in walk]):
                walk = self._extended(home, walk, [stand for stand in self.inner[home] if not (waits >> stand) & 1])
        if not walk:
            walk = self._extended(home, walk, self.inner[home])
        return walk + self.between(self.stands.ends[walk[-1]], home)

    def _extended(self, home, walk, wanted):
        """Return a walk from a joint with the nearest one of these stands behind it."""
        at = self.stands.ends[walk[-1]] if walk else home
        walks = [walk + self.between(at, self.stands.begins[stand]) + [stand] for stand in wanted]
        return min(walks, key=len)


def _walks_from(start, leaving, ends):
    """Return for each joint to which a walk leads from a start the stands of a shortest one."""
    walks = {start: []}
    level = [start]
    while level:
        later = []
        for joint in level:
            for stand in leaving.get(joint, []):
                if ends[stand] not in walks:
                    walks[ends[stand]] = walks[joint] + [stand]
                    later.append(ends[stand])
        level = later
    return walks
