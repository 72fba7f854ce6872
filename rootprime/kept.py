"""Stage 12: kept tables of small steps, and how many steps were counted."""


class Kept:
    """Counts steps, and keeps at most so many tables of small steps."""

    def __init__(self, most):
        self.most = most
        self.counted = 0
        # From (p, q, w) to the table; the one that was used longest ago stands first.
        self.laid = {}

    def steps(self):
        """How many steps were counted from the beginning on."""
        return self.counted

    def tables(self):
        """The tables that are kept, tuples (p, q, w), the one used longest ago first."""
        return list(self.laid)

    def used_table(self, p, q, w):
        """The table of the small steps of q, a dict from each to its exponent; it is laid where it isn't kept."""
        key = (p, q, w)
        if key in self.laid:
            table = self.laid.pop(key)
        else:
            table = small_steps(p, q, w)
            self.add_steps(len(table))
        self.laid[key] = table
        if len(self.laid) > self.most:
            self.laid.pop(self.tables()[0])
        return table

    def add_steps(self, many):
        """Counts so many steps more."""
        self.counted += many


def small_steps(p, q, w):
    """The powers of w by p to 0, 1, .., m - 1, each with its exponent; m is the least with m * m not below q."""
    table = {}
    rest = 1
    # w has the order q, and m is no greater than q: no power stands there twice.
    while len(table) * len(table) < q:
        table[rest] = len(table)
        rest = rest * w % p
    return table
