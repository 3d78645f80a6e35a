"""A desk that keeps a web and claims about it while the web changes."""

from needforth.claims import check_claim, check_claims, check_room, settled_claim, verdict_of
from needforth.errors import BadDeed, Lacking, NoClaim, NothingDone, NoWeb
from needforth.kinds import is_integer, is_row
from needforth.nets import Net, asks_of
from needforth.webs import Web

# how many arguments each deed takes
ARGUMENTS = {"put": 3, "grant": 1, "strike": 1, "claim": 1, "drop": 1}


def check_web(web):
    """Raise the error that is due for a thing that is passed as a web."""
    if not isinstance(web, Web):
        raise NoWeb()


def is_deed(thing):
    """Whether a thing tells a deed of a desk."""
    if not is_row(thing) or not thing or not isinstance(thing[0], str):
        return False
    return len(thing) - 1 == ARGUMENTS.get(thing[0])


def check_deeds(deeds):
    """Raise the error that is due for a thing that is passed as deeds."""
    if not is_row(deeds):
        raise BadDeed(-1)
    for number, deed in enumerate(deeds):
        if not is_deed(deed):
            raise BadDeed(number)


def judged(web, told):
    """The pairs of the numbers and the verdicts of numbered claims."""
    net = None if web.opens or not told else Net(asks_of(web))
    return tuple([(number, verdict_of(web, net, claim)) for number, claim in told])


def changes(before, after):
    """The triples of a number and its two verdicts for those numbers whose verdicts are not the same."""
    later = {number: verdict for number, verdict in after}
    return tuple([(number, verdict, later[number]) for number, verdict in before
                  if number in later and later[number] != verdict])


class Stand:
    """How a desk stands: its web, its numbered claims with their verdicts, what changed, and how it stood before."""

    def __init__(self, rows, told, verdicts, changed, past):
        self.rows = rows
        self.told = told
        self.given = verdicts
        self.changed = changed
        self.past = past


class Trial:
    """A context that leaves a desk as it was when it was entered."""

    def __init__(self, desk):
        self.desk = desk
        self.stand = desk.stand
        self.following = desk.following

    def __enter__(self):
        self.stand = self.desk.stand
        self.following = self.desk.following
        return self.desk

    def __exit__(self, *told):
        desk = self.desk
        desk.stand = self.stand
        desk.following = self.following


class Desk:
    """Keeps a web and claims about it; deeds change them and tell which verdicts change."""

    def __init__(self, web, claims=()):
        check_web(web)
        check_claims(claims)
        told = tuple([(number, settled_claim(claim)) for number, claim in enumerate(claims)])
        self.stand = Stand(web, told, judged(web, told), (), None)
        self.following = len(told)

    @property
    def web(self):
        """The web now."""
        return self.stand.rows

    @web.setter
    def web(self, web):
        check_web(web)
        self.turn_to(web)

    @property
    def claims(self):
        """The pairs of the numbers and the claims there now."""
        return self.stand.told

    @property
    def verdicts(self):
        """The pairs of the numbers and the verdicts of the claims there now."""
        return self.stand.given

    @property
    def events(self):
        """What the last deed, or the taking back of one, changed."""
        return self.stand.changed

    def turn_to(self, web):
        """Set another web, and return the events."""
        now = self.stand
        verdicts = judged(web, now.told)
        return self.go_on(Stand(web, now.told, verdicts, changes(now.given, verdicts), now))

    def go_on(self, stand):
        """Stand otherwise, and return the events."""
        self.stand = stand
        return stand.changed

    def put(self, name, maker, sources):
        """Give a row this maker and these sources; if it is not there, it comes behind the last one."""
        now = self.stand.rows
        made = (name, maker, sources)
        rows = [made if row[0] == name else row for row in now.rows]
        if name not in now.names:
            rows.append(made)
        return self.turn_to(Web(now.givens, rows))

    def grant(self, name):
        """Add a given behind the last one."""
        now = self.stand.rows
        return self.turn_to(Web(now.givens + (name,), now.rows))

    def strike(self, name):
        """Take a given or a row away."""
        now = self.stand.rows
        if name not in now:
            raise Lacking(name)
        givens = [given for given in now.givens if given != name]
        return self.turn_to(Web(givens, [row for row in now.rows if row[0] != name]))

    def claim(self, claim):
        """Add a claim with a new number."""
        check_claim(claim)
        now = self.stand
        check_room(len(now.told) + 1)
        told = ((self.following, settled_claim(claim)),)
        verdicts = judged(now.rows, told)
        self.following = self.following + 1
        return self.go_on(Stand(now.rows, now.told + told, now.given + verdicts, (), now))

    def drop(self, number):
        """Take a claim away."""
        now = self.stand
        if not is_integer(number) or number not in [other for other, _ in now.told]:
            raise NoClaim(number)
        told = tuple([pair for pair in now.told if pair[0] != number])
        verdicts = tuple([pair for pair in now.given if pair[0] != number])
        return self.go_on(Stand(now.rows, told, verdicts, (), now))

    def undo(self):
        """Take the last deed back that was not taken back before, and return the events of this change."""
        now = self.stand
        past = now.past
        if past is None:
            raise NothingDone()
        return self.go_on(Stand(past.rows, past.told, past.given, changes(now.given, past.given), past.past))

    def trial(self):
        """A context behind which web, claims, verdicts, events and what can be taken back are as they were before."""
        return Trial(self)

    def tried(self, deeds):
        """The verdicts behind some deeds that are not done for good."""
        check_deeds(deeds)
        with self.trial() as desk:
            for deed in deeds:
                desk.do(deed[0], list(deed[1:]))
            return desk.verdicts

    def do(self, word, told):
        """Do a deed that is told by its name and its arguments."""
        if word == "put":
            self.put(told[0], told[1], told[2])
        elif word == "grant":
            self.grant(told[0])
        elif word == "strike":
            self.strike(told[0])
        elif word == "claim":
            self.claim(told[0])
        else:
            self.drop(told[0])
