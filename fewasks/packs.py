"""Packs: from what to send each leaf, so that all together costs least, and prices that show it."""

from fewasks.differences import PUT, is_right_over, least, made, price
from fewasks.errors import TooMany
from fewasks.forms import is_int, is_pair, is_rising, rises

OVER = 2
PACK = 24


def refuse_many(leaves, bases):
    if len(leaves) > PACK or len(bases) > PACK:
        raise TooMany("too many leaves or bases for a pack")


def price_of(book, choice, *, over=OVER):
    """What all leaves cost together, sent as the choice tells."""
    return sum([sending_price(book, triple, over) for triple in choice])


def sending_price(book, triple, over):
    leaf, base, script = triple
    return plain_price(book, leaf) if base is None else over + price(script)


def plain_price(book, leaf):
    return PUT * len(book.leaf_rows(leaf))


def right_pack(book, leaves, bases, thing, *, over=OVER):
    """Whether the thing is a choice and prices that show that no choice is cheaper."""
    refuse_many(leaves, bases)
    if not is_pair(thing) or not is_choice(book, leaves, bases, thing[0]) or not are_prices(leaves, thing[1]):
        return False
    choice, prices = thing
    if sum([paid for inside, paid in prices]) != price_of(book, choice, over=over):
        return False
    sendings = all_sendings(book, leaves, bases, over)
    return all([laid_on(leaf, source, prices) <= sendings[leaf, source][0] for leaf, source in sendings])


def is_choice(book, leaves, bases, thing):
    if not isinstance(thing, tuple) or len(thing) != len(leaves):
        return False
    sources = leaves + bases
    if not all([is_sending(book, leaf, sources, triple) for leaf, triple in zip(leaves, thing)]):
        return False
    return len(sent_in_order(thing)) == len(thing)


def is_sending(book, leaf, sources, thing):
    """Whether it is a triple that sends the leaf plain or from another one of the sources."""
    if not isinstance(thing, tuple) or len(thing) != 3 or not is_int(thing[0]) or thing[0] != leaf:
        return False
    base, script = thing[1], thing[2]
    if base is None:
        return script == ()
    if not is_int(base) or base not in sources or base == leaf:
        return False
    rows = book.leaf_rows(base)
    return is_right_over(rows, script) and made(rows, script) == book.leaf_rows(leaf)


def sent_in_order(choice):
    """The triples, each behind the one of its base; those that lead back to themselves are left out."""
    sent = {leaf: True for leaf, base, script in choice}
    over_base = {}
    for triple in choice:
        over_base.setdefault(triple[1], []).append(triple)
    told = [triple for triple in choice if triple[1] not in sent]
    at = 0
    while at < len(told):
        told.extend(over_base.get(told[at][0], []))
        at += 1
    return told


def are_prices(leaves, thing):
    """Whether they have the form of prices, whatever is laid on the ways of sending."""
    if not isinstance(thing, tuple) or not all([is_set_price(leaves, pair) for pair in thing]):
        return False
    return rises([pair[0] for pair in thing])


def is_set_price(leaves, thing):
    if not is_pair(thing) or not is_rising(thing[0]) or len(thing[0]) == 0:
        return False
    return all([leaf in leaves for leaf in thing[0]]) and is_int(thing[1]) and thing[1] >= 1


def laid_on(leaf, source, prices):
    """What all prices lay on sending the leaf from the source."""
    return sum([paid for inside, paid in prices if leaf in inside and source not in inside])


def all_sendings(book, leaves, bases, over):
    """For each leaf and each source, None being that it is sent plain, the cost and a least script."""
    found = {}
    for leaf in leaves:
        found[leaf, None] = (plain_price(book, leaf), ())
        for source in bases + leaves:
            if source != leaf:
                script, distances = least(book.leaf_rows(source), book.leaf_rows(leaf))
                found[leaf, source] = (over + distances[-1], script)
    return found


def least_pack(book, leaves, bases, *, over=OVER):
    """A choice of which none is cheaper, and the prices that show it."""
    refuse_many(leaves, bases)
    sendings = all_sendings(book, leaves, bases, over)
    paying = Paying(leaves, {sending: sendings[sending][0] for sending in sendings})
    paying.pay_all()
    source_of = paying.sources()
    choice = [(leaf, source_of[leaf], sendings[leaf, source_of[leaf]][1]) for leaf in leaves]
    return (tuple(choice), paying.prices())


class Group:
    """One leaf, or groups whose cheapest ways in run round; entry is the way in up to which it has paid."""

    def __init__(self, leaves, inner):
        self.leaves = leaves
        self.inner = inner
        self.paid = 0
        self.entry = None


class Paying:
    """Groups that pay up to their cheapest ways in, until no such ways run round.

    A way in is a pair (leaf, source); unpaid has what is left of its cost behind all that was laid on it.
    """

    def __init__(self, leaves, costs):
        self.unpaid = costs
        self.groups = [Group((leaf,), []) for leaf in leaves]
        self.outermost = {group.leaves[0]: group for group in self.groups}

    def pay_all(self):
        waiting = list(self.groups)
        while waiting:
            group = waiting.pop()
            self.pay(group)
            ring = self.ring_of(group)
            if ring:
                waiting.append(self.put_together(ring))

    def pay(self, group):
        ways_in = [way for way in self.unpaid if way[0] in group.leaves and way[1] not in group.leaves]
        group.paid = min([self.unpaid[way] for way in ways_in])
        group.entry = [way for way in ways_in if self.unpaid[way] == group.paid][0]
        for way in ways_in:
            self.unpaid[way] -= group.paid

    def ring_of(self, group):
        """The groups by whose entries the group leads back to itself, with itself first; none if it does not."""
        ring = [group]
        while True:
            ahead = self.outermost.get(ring[-1].entry[1])
            if ahead is None or ahead.entry is None:
                return []
            if ahead == group:
                return ring
            ring.append(ahead)

    def put_together(self, ring):
        leaves = tuple(sorted([leaf for group in ring for leaf in group.leaves]))
        whole = Group(leaves, ring)
        self.groups.append(whole)
        for leaf in leaves:
            self.outermost[leaf] = whole
        return whole

    def sources(self):
        """For each leaf its source: of a ring each group keeps its entry but the one by which the ring is entered."""
        found = {}
        waiting = [(group, group.entry) for group in self.groups if self.outermost[group.leaves[0]] == group]
        while waiting:
            group, entry = waiting.pop()
            if not group.inner:
                found[entry[0]] = entry[1]
            for part in group.inner:
                waiting.append((part, entry if entry[0] in part.leaves else part.entry))
        return found

    def prices(self):
        return tuple(sorted([(group.leaves, group.paid) for group in self.groups if group.paid > 0]))
