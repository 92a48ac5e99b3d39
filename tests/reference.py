"""What the document defines, computed from lists of all settings or from the words of the definitions."""

import functools
import itertools
import math

from tests.common import place, settings, table


def written_in(board):
    """The list of the settings of the places of a small numbering."""
    return [found[0] for _, found in sorted(table(board).items())]


def carries(board):
    texts = written_in(board)
    return [texts[many * weight % board[0]] for many, weight in board[1]]


def hands(board, all_carries):
    return [[j for j, figure in enumerate(carry) if figure > 0] for carry in all_carries]


def reach(hand_lists):
    """The sets of the dials below each dial, by rows of one handing or more."""
    found = []
    for dial in range(len(hand_lists)):
        seen, todo = set(), list(hand_lists[dial])
        while todo:
            now = todo.pop()
            if now not in seen:
                seen.add(now)
                todo.extend(hand_lists[now])
        found.append(tuple(sorted(seen)))
    return tuple(found)


def heights(reached):
    """The most steps of a row of reaching that ends at each dial."""
    def height(dial):
        return max([height(other) + 1 for other in range(len(reached)) if dial in reached[other]], default=0)
    return tuple(height(dial) for dial in range(len(reached)))


def full_at(board, dial, many):
    size, weight = board[1][dial]
    return size * math.gcd(weight, many) == many


def is_whole(board, sequence):
    left = board[0]
    for dial in sequence:
        if not full_at(board, dial, left):
            return False
        left //= board[1][dial][0]
    return left == 1 and len(sequence) == len(board[1])


def whole_layings(board):
    return [sequence for sequence in itertools.permutations(range(len(board[1]))) if is_whole(board, sequence)]


def is_blind(board, many):
    """Whether no dial has "many divides range times weight, and not weight"."""
    return not any(size * weight % many == 0 and weight % many for size, weight in board[1])


def one_round(board, all_carries, totals):
    new = [total % many for total, (many, _) in zip(totals, board[1])]
    for total, (many, _), carry in zip(totals, board[1], all_carries):
        new = [now + total // many * figure for now, figure in zip(new, carry)]
    return tuple(new)


def rounds(board, all_carries, totals):
    """The rows of totals, and the number of the last round in which something is handed."""
    rows, last = [totals], 0
    while any(total >= many for total, (many, _) in zip(rows[-1], board[1])):
        if any(total >= many and any(carry) for total, (many, _), carry in zip(rows[-1], board[1], all_carries)):
            last = len(rows)
        rows.append(one_round(board, all_carries, rows[-1]))
    return tuple(rows), last


def exponent(many, prime):
    count = 0
    while many % prime == 0:
        many //= prime
        count += 1
    return count


def primes_of(many):
    return [p for p in range(2, many + 1) if many % p == 0 and all(p % k for k in range(2, p))]


def levels_of_dial(many, weight):
    found = []
    for prime in primes_of(many):
        low = exponent(weight, prime)
        found += [(prime, level) for level in range(low + 1, low + exponent(many, prime) + 1)]
    return found


def wheel_levels(wheel):
    return [(prime, level) for prime in primes_of(wheel) for level in range(1, exponent(wheel, prime) + 1)]


def factorings(many):
    """All tuples of integers of at least 2 with this product."""
    if many == 1:
        yield ()
    for first in range(2, many + 1):
        if many % first == 0:
            for rest in factorings(many // first):
                yield (first,) + rest


def can_be_filled(board):
    """Whether some dials behind make the board a numbering, by trying all of them."""
    wheel, dials = board
    own = math.prod(many for many, _ in dials)
    if wheel % own:
        return False
    for ranges in factorings(wheel // own):
        for weights in itertools.product(range(wheel), repeat=len(ranges)):
            new = (wheel, dials + tuple(zip(ranges, weights)))
            if len({sum(f * w for f, (_, w) in zip(s, new[1])) % wheel for s in settings(new)}) == wheel:
                return True
    return False


def subsets(items):
    """All tuples of some of the items, in their sequence."""
    items = list(items)
    return [part for many in range(len(items) + 1) for part in itertools.combinations(items, many)]


def obeys(rows):
    """Whether sets of dials, for each dial, are an order."""
    return all(i not in row and all(k in row for j in row for k in rows[j]) for i, row in enumerate(rows))


def all_orders(size):
    """All orders of a size, ascending."""
    parts = sorted(subsets(range(size)))
    return [rows for rows in itertools.product(parts, repeat=size) if obeys(rows)]


def tied(ranges, i, j):
    return math.gcd(ranges[i], ranges[j]) > 1


def fits(ranges, order):
    return all(not tied(ranges, i, j) or i in order[j] or j in order[i] for i, j in itertools.combinations(range(len(ranges)), 2))


def order_depth(order):
    return max(heights(order), default=0)


def is_row_of_pairs(row, pairs):
    """Whether each next one, round about, is told below the one ahead of it."""
    return all((row[k - 1], row[k]) in pairs for k in range(len(row)))


def is_lot_by_words(wheel, members):
    """Whether ascending divisors are a lot."""
    return 1 in members and wheel in members and all(
        math.gcd(a, b) in members and math.lcm(a, b) in members for a in members for b in members)


def lots_by_words(wheel):
    """All lots of a wheel, ascending."""
    return sorted(part for part in subsets(d for d in range(1, wheel + 1) if wheel % d == 0) if is_lot_by_words(wheel, part))


def firm_by_words(lot):
    """The members greater than 1 that are not the lcm of some smaller ones."""
    found = []
    for member in lot:
        smaller = [other for other in lot if other < member]
        if member > 1 and not any(math.lcm(*part) == member for part in subsets(smaller) if part):
            found.append(member)
    return tuple(found)


def ties(ranges):
    return [(i, j) for i, j in itertools.combinations(range(len(ranges)), 2) if tied(ranges, i, j)]


def all_partings(size):
    """All ways of parting dials into groups: tuples of numbers, each at most one more than those ahead of it."""
    rows = [()]
    for _ in range(size):
        rows = [row + (number,) for row in rows for number in range(max(row, default=-1) + 2)]
    return rows


@functools.lru_cache(maxsize=None)
def fewest_colours(ranges):
    """By trying all ways of parting the dials."""
    pairs = ties(ranges)
    return min(len(set(row)) for row in all_partings(len(ranges)) if all(row[i] != row[j] for i, j in pairs))


def most_untied(ranges):
    pairs = set(ties(ranges))
    return max(len(part) for part in subsets(range(len(ranges))) if not pairs & set(itertools.combinations(part, 2)))


def tree_verdict(ranges, many, thing, way=(), groups=None, apart=()):
    """How many cliques a tree has, or the pair (word, way) of what is wrong with it; by sets of dials."""
    if groups is None:
        groups = [frozenset([dial]) for dial in range(len(ranges))]
    named = {min(group): group for group in groups}

    def linked(one, other):
        return any(tied(ranges, i, j) or {i, j} in [{a, b} for left, right in apart for a in left for b in right]
                   for i in named[one] for j in named[other])

    def is_name(value):
        return type(value) is int and value in named
    if type(thing) is not tuple or not thing or type(thing[0]) is not str or (thing[0], len(thing)) not in (("clique", 2), ("case", 5)):
        return "shape", way
    if thing[0] == "clique":
        names = thing[1]
        if type(names) is not tuple or not all(map(is_name, names)) or list(names) != sorted(set(names)):
            return "names", way
        if len(names) < many + 1:
            return "few", way
        return 1 if all(linked(*pair) for pair in itertools.combinations(names, 2)) else ("untied", way)
    one, other, same, unlike = thing[1:]
    if not is_name(one) or not is_name(other) or one >= other:
        return "names", way
    if linked(one, other):
        return "tied", way
    merged = [group for group in groups if group not in (named[one], named[other])] + [named[one] | named[other]]
    first = tree_verdict(ranges, many, same, way + (0,), merged, apart)
    if type(first) is tuple:
        return first
    second = tree_verdict(ranges, many, unlike, way + (1,), groups, apart + ((named[one], named[other]),))
    return second if type(second) is tuple else first + second


def forced(ranges, x, y):
    """What the pair (x, y) of tied dials forces, by the words of the definition."""
    found = set()
    for z in range(len(ranges)):
        if z not in (x, y):
            if tied(ranges, x, z) and not tied(ranges, y, z):
                found.add((x, z))
            if tied(ranges, z, y) and not tied(ranges, x, z):
                found.add((z, y))
    return found


def forced_class(ranges, pair):
    found = {pair}
    while True:
        more = found | {new for one in found for new in forced(ranges, *one)}
        if more == found:
            return found
        found = more


def turned_orders(ranges):
    """All orders whose pairs of comparable dials are just the tied ones."""
    pairs = ties(ranges)
    size = len(ranges)
    found = []
    for ways in itertools.product((0, 1), repeat=len(pairs)):
        rows = [[] for _ in range(size)]
        for (i, j), way in zip(pairs, ways):
            rows[(i, j)[way]].append((j, i)[way])
        rows = tuple(tuple(sorted(row)) for row in rows)
        if obeys(rows):
            found.append(rows)
    return found


def cross(board, other):
    return tuple(tuple(a * b % board[0] for _, b in other[1]) for _, a in board[1])


def joins(board, other):
    return [(i, j) for i, row in enumerate(cross(board, other)) for j, product in enumerate(row) if i != j and product]


def longest_join_row(size, pairs):
    """The steps of the longest row of joins, None if joins lead back to a dial."""
    come = reach([[j for i, j in pairs if i == dial] for dial in range(size)])
    return None if any(dial in row for dial, row in enumerate(come)) else order_depth(come)


def summed(plan):
    """The dials in the sequence of their sums."""
    return tuple(single[1] for single in plan if single[0] == "sum")


def exponent_at(board, plan, d, c):
    """The exponent of a plan at two settings, by the words of the definition."""
    sum_of = {single[1]: k for k, single in enumerate(plan) if single[0] == "sum"}
    total = 0
    for k, single in enumerate(plan):
        if single[0] == "sum":
            total += single[2] * d[single[1]] * c[single[1]]
        else:
            e = [c[dial] if sum_of[dial] < k else d[dial] for dial in range(len(d))]
            total += sum(factor * e[i] * e[j] for i, j, factor in single[1])
    return total % board[0]


def is_right(board, other, plan, pairs=None):
    """Whether the exponents of a plan are the products of the places, at all settings or at these pairs of them."""
    if pairs is None:
        pairs = itertools.product(settings(board), repeat=2)
    return all(exponent_at(board, plan, d, c) == place(board, d) * place(other, c) % board[0] for d, c in pairs)


def plan_verdict(board, other, plan):
    """How many twists a tuple of passes has if it is a right plan, else the pair of what is wrong with it; by the words."""
    table, size, wheel = cross(board, other), len(board[1]), board[0]
    for dial in range(size):
        if [single[1] for single in plan if single[0] == "sum"].count(dial) != 1:
            return "sums", dial
    for dial in range(size):
        if ("sum", dial, table[dial][dial]) not in plan:
            return "factor", dial
    rows = []
    for k, single in enumerate(plan):
        if single[0] == "twist":
            ahead = summed(plan[:k])
            rows += [(i, "c" if i in ahead else "d", j, "c" if j in ahead else "d", factor) for i, j, factor in single[1]]
            rows += [(j, b, i, a, factor) for i, a, j, b, factor in rows[len(rows) - len(single[1]):]]
    for word, a, b in (("cross", "d", "c"), ("ahead", "d", "d"), ("behind", "c", "c")):
        for i, j in itertools.product(range(size), repeat=2):
            wanted = table[i][j] if word == "cross" else 0
            if (i != j if word == "cross" else i < j):
                if (sum(row[4] for row in rows if row[:4] == (i, a, j, b)) - wanted) % wheel:
                    return word, (i, j)
    return sum(single[0] == "twist" for single in plan)


def fewest_gaps(size, pairs, sequence):
    """The least number of gaps between sums such that each join covers one, by trying all sets of gaps."""
    spans = [range(sequence.index(j), sequence.index(i)) for i, j in pairs]
    return min(len(part) for part in subsets(range(size - 1 if size else 0)) if all(set(part) & set(span) for span in spans))
