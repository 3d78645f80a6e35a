"""What facts say of names together: which ones are linked, their floors and their ceilings."""

from needforth.errors import AtOdds
from needforth.facts import names_in_facts


class Links:
    """The links, floors and ceilings of names."""

    def __init__(self, facts):
        self.names = names_in_facts(facts)
        self.followers = self.followers_in(facts)
        self.floors = {}
        self.ceilings = {}
        for first, second in facts:
            if not isinstance(first, str):
                self.raise_floors(first[1], second)
            elif not isinstance(second, str):
                self.lower_ceilings(first, second[1])

    def followers_in(self, facts):
        """For each name the names to which it is linked, itself among them, as keys of a dict."""
        pairs = [(first, second) for first, second in facts if isinstance(first, str) and isinstance(second, str)]
        found = {name: {name: True} for name in self.names}
        for _ in self.names:
            for first, second in pairs:
                for followers in list(found.values()):
                    if first in followers:
                        followers[second] = True
        return found

    def raise_floors(self, k, name):
        """Note that the shift by k is below a name."""
        for other in self.followers[name]:
            self.floors[other] = max(k, self.floors.get(other, k))

    def lower_ceilings(self, name, k):
        """Note that a name is below the shift by k."""
        for other in self.names:
            if self.linked(other, name):
                self.ceilings[other] = min(k, self.ceilings.get(other, k))

    def linked(self, name, other):
        """Whether a name is linked to another one, or is the other one."""
        return name == other or other in self.followers.get(name, {})

    def check_odds(self):
        """Raise the error that is due if the facts are at odds."""
        for name in self.names:
            if name in self.floors and name in self.ceilings and self.floors[name] > self.ceilings[name]:
                raise AtOdds(name)
