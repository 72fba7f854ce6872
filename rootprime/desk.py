"""Stage 14: the desk, which is told rows and answers each with a text."""

from rootprime.books import read_question
from rootprime.errors import NoRow
from rootprime.kept import Kept
from rootprime.looker import first_wrong

# How many tables a desk keeps at most.
MOST_TABLES = 8


class Desk:
    """Keeps tables, and all its answers."""

    def __init__(self):
        self.kept = Kept(MOST_TABLES)
        self.answered = []

    def say(self, row):
        """The text that the row is answered with."""
        if row.startswith("ask "):
            return self.ask(row[4:])
        if row == "shown":
            return self.answered[-1][2] if self.answered else "-"
        if row == "steps":
            return str(self.kept.steps())
        if row == "tables":
            return written_tables(self.kept.tables())
        if row == "look":
            wrong = first_wrong(self.answered)
            return "good" if wrong is None else str(wrong)
        if row == "forget":
            return self.forget()
        raise NoRow()

    def ask(self, line):
        """What is told of the question; its answer is kept."""
        found = read_question(line, 0).answer(self.kept)
        self.answered.append(found)
        return found[1]

    def forget(self):
        """Begins anew, with no tables and no answers."""
        self.kept = Kept(MOST_TABLES)
        self.answered = []
        return "ok"


def written_tables(tables):
    """Each P,Q,W, parted by blanks; - where there is none."""
    return " ".join([f"{p},{q},{w}" for p, q, w in tables]) if tables else "-"
