"""The pieces of the text of a term or a saying, and the first character that is wrong in it."""

from needforth.errors import BadText
from needforth.letters import FIGURES, LETTERS
from needforth.termforms import LONGEST_NAME

ALWAYS = ("*", "&", "|")
RESIDUES = ("under", "over")
BELOW = "<="


def shared_start(text, at, word):
    """How many characters of a word stand in a text from a place on, up to the first other one."""
    many = 0
    while many < len(word) and at + many < len(text) and text[at + many] == word[many]:
        many = many + 1
    return many


class Scanner:
    """Goes through a text once; stops with BadText at the first character that no right text has there."""

    def __init__(self, text, saying):
        self.text = text
        self.at = 0
        self.pieces = []
        # for the whole and each open bracket: whether `under` or `over` has come, so that neither may come again
        self.residues = [False]
        # whether no sign between the two terms of a saying may come any more
        self.halved = not saying

    def scan(self):
        """Go through the whole text and return its pieces."""
        if not isinstance(self.text, str):
            raise BadText(-1)
        self.take_operand()
        while self.at < len(self.text):
            if self.text[self.at] == ")" and len(self.residues) > 1:
                self.residues.pop()
                self.take(1)
            else:
                self.take_joint()
                self.take_operand()
        if len(self.residues) > 1 or not self.halved:
            raise BadText(self.at)
        return self.pieces

    def sign_among(self, signs):
        """Whether the next character is one of the signs."""
        return self.at < len(self.text) and self.text[self.at] in signs

    def take(self, many):
        """Take so many characters as a piece."""
        self.pieces.append(self.text[self.at:self.at + many])
        self.at = self.at + many

    def take_operand(self):
        """Take turns and brackets that open, and the name or the shift behind them."""
        while self.sign_among("~("):
            if self.text[self.at] == "(":
                self.residues.append(False)
            self.take(1)
        if self.sign_among("+-"):
            self.take_shift()
        elif self.sign_among(LETTERS):
            self.take_name()
        else:
            raise BadText(self.at)

    def take_shift(self):
        """Take a sign and a figure; nought has only the sign +."""
        figures = FIGURES if self.text[self.at] == "+" else FIGURES[1:]
        behind = self.at + 1
        if behind == len(self.text) or self.text[behind] not in figures:
            raise BadText(behind)
        self.take(2)

    def take_name(self):
        """Take a name, as many characters of it as there are."""
        many = 1
        following = self.text[self.at + 1:self.at + LONGEST_NAME]
        for sign in following:
            if sign not in LETTERS and sign not in FIGURES:
                break
            many = many + 1
        self.take(many)

    def joints(self):
        """The signs and words that may stand here between two terms."""
        found = list(ALWAYS)
        if not self.residues[-1]:
            found.extend(RESIDUES)
        if not self.halved and len(self.residues) == 1:
            found.append(BELOW)
        return found

    def take_joint(self):
        """Take a blank, a sign or a word, and a blank."""
        if self.text[self.at] != " ":
            raise BadText(self.at)
        self.at = self.at + 1
        most = 0
        for joint in self.joints():
            many = shared_start(self.text, self.at, joint + " ")
            if many > len(joint):
                self.note_joint(joint)
                self.take(len(joint))
                self.at = self.at + 1
                return
            most = max(most, many)
        raise BadText(self.at + most)

    def note_joint(self, joint):
        """Keep in mind what a sign or a word lets come behind it."""
        if joint in RESIDUES:
            self.residues[-1] = True
        elif joint != "*":
            self.residues[-1] = False
        if joint == BELOW:
            self.halved = True


def pieces_of(text, saying):
    """The list of the pieces of the text of a term, or of a saying: brackets, signs, words, names and shifts."""
    scanner = Scanner(text, saying)
    return scanner.scan()
