"""What several tests use: things of every kind, things that are bent at one place, a bound on waiting."""

import ast
import contextlib
import itertools
import math
import re
import signal

from rootprime.primepapers import prime_paper

SIXTY = 10 ** 60 - 1
GREAT = (SIXTY, -SIXTY, 10 ** 59, 314159265358979323846264338327950288419716939937510582097494)


def deep(depth, kind):
    """A thing that lies within so many tuples or lists."""
    thing = 1
    for _ in range(depth):
        thing = kind([thing])
    return thing


def every_kind():
    """Things of every kind that may be handed in as any thing, right by nobody's reckoning."""
    return [
        None, True, False, 0, 1, 2, -1, 7, SIXTY, -SIXTY,
        "", "a", "2", "(2 1 ())", "\n", "~",
        [], (), [()], ((),), ([],), [[]], (None,), (True,), ("a", "b"), [1, 2, 3], (0, 0), (1, 2, 3),
        (0, ()), (1, ((),)), (2, 1), (2, 1, ()) * 2, ((2, 1, ()),), (((2, 1, ()),),), "210", ("2", "1", "()"),
        deep(100, tuple), deep(100, list), tuple(range(1999)), list(range(1999)), (((),) * 600,) * 3,
    ]


def bends(thing):
    """Every thing out of a great choice that differs from the thing at one place."""
    seen = {repr(thing)}
    for bent in all_bends(thing):
        if repr(bent) not in seen:
            seen.add(repr(bent))
            yield bent


def all_bends(thing):
    yield from (None, True, False, 0, "", "a", (), [], str(thing), (thing,), [thing])
    if isinstance(thing, (tuple, list)):
        yield from bent_rows(thing)
    elif isinstance(thing, int):
        yield from (1, 2, 3, -thing, thing + 1, thing - 1, 2 * thing, SIXTY, -SIXTY)


def bent_rows(thing):
    kind = tuple if isinstance(thing, tuple) else list
    yield list(thing) if kind is tuple else tuple(thing)
    yield thing[::-1]
    for more in (0, 1, None, (), (thing,)):
        yield thing + kind([more])
        yield kind([more]) + thing
    for at, within in enumerate(thing):
        yield thing[:at] + thing[at + 1:]
        yield thing[:at] + kind([within]) + thing[at:]
        for bent in bends(within):
            yield thing[:at] + kind([bent]) + thing[at + 1:]


@contextlib.contextmanager
def soon(seconds=10):
    """Fails where what is done within takes longer."""
    def ring(signum, frame):
        raise AssertionError(f"no answer within {seconds} seconds")

    old = signal.signal(signal.SIGALRM, ring)
    signal.setitimer(signal.ITIMER_REAL, seconds)
    try:
        yield
    finally:
        signal.setitimer(signal.ITIMER_REAL, 0)
        signal.signal(signal.SIGALRM, old)


def is_plain(thing):
    """Whether all numbers in what is told are whole numbers, no truths, and all kinds are plain ones."""
    if type(thing) in (tuple, list):
        return all(is_plain(within) for within in thing)
    return type(thing) is int or thing is None


def is_prime(n):
    """By the words of point 10, but for going on behind the root."""
    return n >= 2 and all(n % d for d in range(2, min(n, int(n ** 0.5) + 2)))


SMALL_PRIMES = [n for n in range(2, 130) if is_prime(n)]
# p - 1 has a great prime in the first two, a great power of 2 in some, many small primes in the last two.
GREAT_PRIMES = (71850239, 999999929, 999999937, 469762049, 998244353, 754974721, 367567201, 892371481)


def is_right_prime_paper(thing):
    """Point 13, word by word."""
    if not (type(thing) is tuple and len(thing) == 3):
        return False
    p, full, parts = thing
    return (
        type(p) is int and type(full) is int and p >= 2 and 1 <= full <= p - 1
        and is_right_parting_paper(p - 1, parts)
        and pow(full, p - 1, p) == 1
        and all(pow(full, (p - 1) // row[0][0], p) != 1 for row in parts)
    )


def is_right_parting_paper(n, thing):
    """Point 14, word by word."""
    return n >= 1 and type(thing) is tuple and are_right_rows(n, thing, 2)


def is_right_order_paper(n, a, thing):
    """Point 17, word by word."""
    if not (type(thing) is tuple and len(thing) == 2):
        return False
    e, parts = thing
    return (
        type(e) is int and e >= 1 and type(parts) is tuple and are_right_rows(e, parts, 3)
        and pow(a, e, n) == 1
        and all(type(rest) is int and rest != 1 and rest == pow(a, e // paper[0], n) for paper, _, rest in parts)
    )


def are_right_rows(n, rows, width):
    if not all(type(row) is tuple and len(row) == width and is_right_prime_paper(row[0]) for row in rows):
        return False
    # A many above the bits of n is too great by far, and its power takes long to make.
    if not all(type(row[1]) is int and 1 <= row[1] <= n.bit_length() for row in rows):
        return False
    primes = [row[0][0] for row in rows]
    return primes == sorted(set(primes)) and math.prod(row[0][0] ** row[1] for row in rows) == n


def order_by_hand(n, a):
    """The order of a by n, by going through all powers; None where there is none."""
    rest, e = a % n, 1
    while rest != 1:
        rest, e = rest * a % n, e + 1
        if e > n:
            return None
    return e


def factors(n):
    """The parting of n, by going through all numbers."""
    found, left, q = [], n, 2
    while left > 1:
        if q * q > left:
            q = left
        many = 0
        while left % q == 0:
            left, many = left // q, many + 1
        if many:
            found.append((q, many))
        q += 1
    return found


def other_papers(p):
    """The prime papers of a small p with each of its full numbers."""
    paper = prime_paper(p)
    return [(p, full, paper[2]) for full in range(1, p) if order_by_hand(p, full) == p - 1]


def paper_above(p, parting):
    """A prime paper of a prime of any size, from the parting of p - 1 into primes up to 10 ** 9."""
    full = 2
    while any(pow(full, (p - 1) // q, p) == 1 for q, _ in parting):
        full += 1
    return (p, full, tuple((prime_paper(q), many) for q, many in parting))


# Papers of primes above 10 ** 9.
PAPERS_ABOVE = (
    paper_above(10 ** 9 + 7, ((2, 1), (500000003, 1))),
    paper_above(2 ** 61 - 1, ((2, 1), (3, 2), (5, 2), (7, 1), (11, 1), (13, 1), (31, 1), (41, 1), (61, 1), (151, 1),
                              (331, 1), (1321, 1))),
    paper_above(3 * 2 ** 189 + 1, ((2, 189), (3, 1))),
)


def papers_of(primes):
    return [prime_paper(p) for p in primes]


def alike(primes, numbers):
    """The number that is alike, by each of the primes, with the number beside it."""
    whole = math.prod(primes)
    return sum(number * (whole // p) * pow(whole // p, -1, p) for p, number in zip(primes, numbers)) % whole


def roots_by_hand(p, k, a):
    """Point 23: by going through all numbers."""
    return [x for x in range(p) if (pow(x, k, p) - a) % p == 0]


def told_roots(p, k, a):
    """All that point 24 lets be told of a small p; nothing where it is refused."""
    found = roots_by_hand(p, k, a)
    d = math.gcd(k, p - 1)
    e = (p - 1) // d
    if a % p == 0:
        return [(found, ("nought",))]
    if not found:
        return [(found, ("none", e, pow(a, e, p)))]
    if d > 400:
        return []
    return [(found, ("turned", found[0], turn)) for turn in range(1, p) if order_by_hand(p, turn) == d]


def which_by_hand(p, b, a):
    """The least x such that b's power to x is a by p, by going through all powers; None where there is none."""
    for x in range(p):
        if (pow(b, x, p) - a) % p == 0:
            return x
    return None


def told_which(p, b, a):
    """What point 26 tells, or would tell but for TooFar; p divides neither b nor a."""
    e = order_by_hand(p, b)
    x = which_by_hand(p, b, a)
    if x is None:
        return (None, ("none", e, pow(a, e, p)))
    return (x, ("is", e, tuple((q, tuple(x // q ** n % q for n in range(many))) for q, many in factors(e))))


def told_roots_of(primes, k, a):
    """All that point 33 lets of what 31 tells, of small primes; nothing where it is refused."""
    rows = [told_roots(p, k, a) for p in primes]
    nones = [(n, row[0][1]) for n, row in enumerate(rows) if row and row[0][1][0] == "none"]
    if nones:
        return [([], ("none", n) + shown[1:]) for n, shown in nones]
    many = math.prod(1 if a % p == 0 else math.gcd(k, p - 1) for p in primes)
    if many > 400:
        return []
    found = [x for x in range(math.prod(primes)) if all((pow(x, k, p) - a) % p == 0 for p in primes)]
    return [(found, ("by", tuple(shown))) for shown in itertools.product(*[[one[1] for one in row] for row in rows])]


def told_which_of(primes, b, a):
    """All that point 33 lets of what 32 tells, of small primes; nothing where it is refused with Nought."""
    if any(a % p == 0 or b % p == 0 for p in primes):
        return []
    places = [(order_by_hand(p, b), which_by_hand(p, b, a)) for p in primes]
    told = [(None, ("none", n, e, pow(a, e, primes[n]))) for n, (e, y) in enumerate(places) if y is None]
    for (i, one), (j, other) in itertools.combinations(enumerate(places), 2):
        if one[1] is not None and other[1] is not None and (one[1] - other[1]) % math.gcd(one[0], other[0]):
            told.append((None, ("apart", i, j, one, other)))
    if not told:
        xs = range(math.lcm(*[e for e, _ in places]))
        told = [(next(x for x in xs if all((x - y) % e == 0 for e, y in places)), ("by", tuple(places)))]
    return told


def is_one_of(thing, rights):
    """Whether the thing is one of those that are right, in its kinds too: a truth isn't written like a number."""
    return repr(thing) in [repr(right) for right in rights]


def squares_by_hand(n):
    """All (x, y), x not above y, whose squares come to n; n isn't great."""
    pairs = [(x, math.isqrt(n - x * x)) for x in range(math.isqrt(n // 2) + 1)]
    return [(x, y) for x, y in pairs if x * x + y * y == n]


def squares_by_product(parting):
    """The same of a great n: sums of two squares are multiplied, each two in both ways."""
    pairs = {(0, 1)}
    for q, many in parting:
        for _ in range(many if q % 4 < 3 else many // 2):
            u, v = squares_by_hand(q)[0] if q % 4 < 3 else (0, q)
            pairs = {tuple(sorted(pair)) for x, y in pairs
                     for pair in ((abs(x * u - y * v), x * v + y * u), (x * u + y * v, abs(x * v - y * u)))}
    return sorted(pairs)


def told_squares(n):
    """What 35 tells, of an n that isn't great."""
    threes = [q for q, many in factors(n) if q % 4 == 3 and many % 2]
    pairs = squares_by_hand(n)
    return ([], ("three", threes[0])) if threes else (pairs, ("all", len(pairs)))


def parts_of(parting):
    return tuple((prime_paper(q), many) for q, many in parting)


# Four hundred pairs, and five more.
JUST_MOST = ((5, 4), (13, 4), (17, 1), (29, 1), (37, 1), (41, 1), (53, 1))
TOO_MANY = ((5, 4), (13, 2), (17, 2), (29, 2), (37, 2), (41, 1))


def number_of(parting):
    return math.prod(q ** many for q, many in parting)


NUMBER = r"(?:0|-?[1-9][0-9]{0,59})"
ATOM = rf"(?:{NUMBER}|[a-z]{{1,8}}|-)"


def is_text(text):
    """Whether it is the text of a thing: brackets are taken away from within, all of one depth at once."""
    if not re.fullmatch(r"[-0-9a-z() ]*", text):
        return False
    left = re.sub(rf"(?<![^( ]){ATOM}(?![^) ])", "X", text)
    for depth in range(81):
        if left in ("X", "T"):
            return True
        left = re.sub(r"\(([XT]( [XT])*)?\)", "T", left)
    return False


def thing_of(text):
    """The thing whose text it is, by way of how Python writes it."""
    left = re.sub(r"[a-z]+", lambda found: f"'{found[0]}'", text)
    left = re.sub(r"-(?![0-9])", "None", left)
    return ast.literal_eval(re.sub(r"(?<!\()\)", ",)", left.replace(" ", ", ")))


def text_of(thing):
    """The text of a thing, by the words of point 43."""
    if type(thing) in (tuple, list):
        return f"({' '.join(text_of(within) for within in thing)})"
    return "-" if thing is None else str(thing)


class KeptByHand:
    """What 27, 38 and 39 say of a Kept, word by word."""

    def __init__(self, most):
        self.most, self.steps, self.tables = most, 0, []

    def ask(self, p, b, a):
        """A question of 26; what is refused, or told with none, counts and uses nothing."""
        if a % p and b % p:
            parting = factors(p - 1)
            e = p - 1
            for q, many in parting:
                for _ in range(many):
                    e = e // q if pow(b, e // q, p) == 1 else e
            primes = [(q, many) for q, many in factors(e)]
            if pow(a, e, p) == 1 and all(q <= 10 ** 6 for q, _ in primes):
                for q, many in primes:
                    self.seek(p, b, a, e, q, many)
        return self

    def seek(self, p, b, a, e, q, many):
        w, m = pow(b, e // q, p), 1
        while m * m < q:
            m += 1
        small = [pow(w, j, p) for j in range(m)]
        self.use((p, q, w), m)
        y, back = 0, pow(pow(w, m, p), -1, p)
        for n in range(1, many + 1):
            great, i = pow(a * pow(pow(b, y, p), -1, p), e // q ** n, p), 0
            self.steps += 1
            while great not in small:
                great, i = great * back % p, i + 1
                self.steps += 1
            y += (i * m + small.index(great)) * q ** (n - 1)

    def use(self, table, many):
        if table in self.tables:
            self.tables.remove(table)
        else:
            self.steps += many
        self.tables.append(table)
        if len(self.tables) > self.most:
            self.tables.pop(0)


# What stands behind a question's first word: N, A, E, K, and whatever else is just so.
FORMS = {"prime": "N", "part": "N", "squares": "N", "order": "A by PRIMES", "power": "A E by PRIMES",
         "roots": "K A by PRIMES", "which": "A A by PRIMES"}
LEAST = {"N": 2, "K": 1, "E": 0, "A": -SIXTY}
MOST = {"N": 10 ** 9, "K": 10 ** 9, "E": SIXTY, "A": SIXTY}


def is_right_word(form, word, sure):
    """Point 40 of one word; sure says whether PRIMES are looked at."""
    if form == "by":
        return word == "by"
    if form == "PRIMES":
        if not re.fullmatch(rf"{NUMBER}(\*{NUMBER}){{0,4}}", word):
            return False
        primes = [int(part) for part in word.split("*")]
        right = primes == sorted(set(primes)) and all(2 <= p <= 10 ** 9 for p in primes)
        return right and (not sure or all(is_prime(p) for p in primes))
    return re.fullmatch(NUMBER, word) is not None and LEAST[form] <= int(word) <= MOST[form]


def wrong_word_by_hand(line, sure=True):
    """The number of the first word that isn't so, by point 40; None where the line is a question."""
    words = line.split(" ")
    if words[0] not in FORMS:
        return 0
    forms = FORMS[words[0]].split(" ")
    for n in range(1, max(len(words), len(forms) + 1)):
        if n >= len(words) or n > len(forms) or not is_right_word(forms[n - 1], words[n], sure):
            return n
    return None


def taken(line):
    """The first word, the NUMBERs and the PRIMES of a right line."""
    ahead, _, primes = line.partition(" by ")
    kind, *numbers = ahead.split(" ")
    return kind, [int(number) for number in numbers], [int(p) for p in primes.split("*") if p]


def let_rows(line):
    """All (told, thing) that the looker lets by of a question about small numbers, those first that 41 and 42 tell."""
    kind, numbers, primes = taken(line)
    deeds = {"prime": let_prime, "part": let_part, "squares": let_squares, "order": let_order, "power": let_power,
             "roots": let_roots, "which": let_which}
    return deeds[kind](primes, *numbers)


def let_prime(_, n):
    return [("yes", ())] if is_prime(n) else [("no", (d,)) for d in range(2, n) if n % d == 0]


def let_part(_, n):
    parting = factors(n)
    return [(" ".join(f"{q}^{many}" for q, many in parting), tuple(many for _, many in parting))]


def let_squares(_, n):
    pairs, shown = told_squares(n)
    return [(" ".join(f"{x},{y}" for x, y in pairs) or "none", (tuple(many for _, many in factors(n)), shown))]


def let_order(primes, a):
    if any(a % p == 0 for p in primes):
        return [("nought", ())]
    orders = tuple(order_by_hand(p, a) for p in primes)
    return [(str(math.lcm(*orders)), orders)]


def let_power(primes, a, e):
    return [(str(pow(a, e, math.prod(primes))), ())]


def let_roots(primes, k, a):
    rows = told_roots_of(primes, k, a)
    many = math.prod(1 if a % p == 0 else math.gcd(k, p - 1) for p in primes)
    return [(" ".join(str(x) for x in found) or "none", shown) for found, shown in rows] or [(f"many {many}", ())]


def let_which(primes, b, a):
    rows = told_which_of(primes, b, a)
    return [("none" if x is None else str(x), shown) for x, shown in rows] or [("nought", ())]


def papers_shown(line, told):
    """The papers that 42 tells of a question's line."""
    kind, numbers, primes = taken(line)
    return tuple(papers_of(primes or [q for q, _ in factors(numbers[0]) if told != "no"]))
