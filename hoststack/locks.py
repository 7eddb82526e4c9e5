"""Locks: who may read or write things together, who waits, and rings of waiting that are refused."""

from hoststack.errors import ProcessError

SHARED = 'shared'
ALONE = 'alone'


class Locks:
    """Holders by name, "shared" or "alone", and who waits for what, in the order of asking."""

    def __init__(self):
        self.holders = {}
        self.queue = []

    def holders_of(self, name):
        """Return a table of who holds a name to how."""
        return dict(self.holders.get(name, {}))

    def against(self, who, name, how):
        """Return the other holders beside whom somebody may not hold a name."""
        holders = self.holders.get(name, {})
        return [one for one in holders if one != who and ALONE in (how, holders[one])]

    def fits(self, who, name, how):
        """Return True if somebody may hold a name now beside its other holders."""
        return self.against(who, name, how) == []

    def ahead(self, who, name):
        """Return those who wait for a name and asked before somebody."""
        found = []
        for one, wanted, way in self.queue:
            if one == who:
                return found
            if wanted == name:
                found.append(one)
        return found

    def blockers(self, who, name, how):
        """Return those because of whom somebody has to wait for a name, in ascending order."""
        found = self.against(who, name, how)
        if who not in self.holders.get(name, {}):
            found.extend([one for one in self.ahead(who, name) if one not in found])
        return sorted(found)

    def ask(self, who, name, how):
        """Return whether somebody holds a name now; they wait otherwise.

        Raise ProcessError for another way than "shared" and "alone", for somebody who waits already, and if waiting
        would close a ring.
        """
        if how not in (SHARED, ALONE) or any([one == who for one, wanted, way in self.queue]):
            raise ProcessError('there is no such way, or somebody waits already')
        if self.blockers(who, name, how) == []:
            self.take(who, name, how)
            return True
        self.queue.append((who, name, how))
        if self.in_ring(who):
            self.queue.pop()
            raise ProcessError('waiting would close a ring')
        return False

    def take(self, who, name, how):
        """Let somebody hold a name; "alone" stays alone."""
        holders = self.holders.setdefault(name, {})
        holders[who] = ALONE if ALONE in (how, holders.get(who, how)) else SHARED

    def waits_for(self, who):
        """Return those whom somebody waits for, in ascending order."""
        for one, name, how in self.queue:
            if one == who:
                return self.blockers(one, name, how)
        return []

    def in_ring(self, who):
        """Return True if somebody waits, by others, for themselves."""
        seen = []
        left = self.waits_for(who)
        while left != []:
            one = left.pop()
            if one == who:
                return True
            if one not in seen:
                seen.append(one)
                left.extend(self.waits_for(one))
        return False

    def release(self, who, name):
        """Let go of a name, and return those who hold what they waited for now, in the order of asking."""
        if who not in self.holders_of(name):
            raise ProcessError('somebody does not hold the name')
        self.drop(who, name)
        return self.served()

    def drop(self, who, name):
        """Let go of a name."""
        del self.holders[name][who]
        if self.holders[name] == {}:
            del self.holders[name]

    def served(self):
        """Let those who need not wait any more hold what they waited for; return them in the order of asking."""
        found = []
        for who, name, how in list(self.queue):
            if self.blockers(who, name, how) == []:
                self.queue.remove((who, name, how))
                self.take(who, name, how)
                found.append(who)
        return found

    def leave(self, who):
        """Let go of everything and stop waiting; return those who hold what they waited for now."""
        self.queue = [row for row in self.queue if row[0] != who]
        for name in list(self.holders):
            if who in self.holders[name]:
                self.drop(who, name)
        return self.served()

    def shown(self):
        """Return (((name, ((who, how), ..)), ..) in ascending order, the queue)."""
        rows = [(name, tuple([(who, self.holders[name][who]) for who in sorted(self.holders[name])]))
                for name in sorted(self.holders)]
        return (tuple(rows), tuple(self.queue))
