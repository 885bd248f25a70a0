"""Stage 9: whether any waits at all make a plan calm, with such waits or with a tree that shows that none do."""

from nevergoback.closures import chain_back
from nevergoback.errors import LimitExceeded
from nevergoback.waits import kept_table, waits_table
from nevergoback.walks import ring_for


class Trial:
    """A trial of a table: the orders to be decided, and what was worked out on the way."""

    def __init__(self, table, may, tries):
        self.table = table
        self.orders = [order for order in may if kept_table(table, (order,)) != table]
        self.tries = tries
        self.looked = 0
        self.chains = {}
        self.kept = {}

    def look_at(self):
        """Counts one partial wait more."""
        self.looked = self.looked + 1
        if self.looked > self.tries:
            raise LimitExceeded(self.tries)

    def chain_of(self, table):
        """A shortest chain to a look back of this table, or None; many partial waits ask for the same tables."""
        if table not in self.chains:
            self.chains[table] = chain_back(table, self.kept)
        return self.chains[table]

    def leaf(self, waiting, at):
        """The leaf that shows that nothing comes of these waits and any of the orders from this index on, or None."""
        chain = self.chain_of(waits_table(waiting))
        if chain is not None:
            return ("still", ring_for(chain))
        chain = self.chain_of(kept_table(self.table, waiting + tuple(self.orders[at:])))
        return None if chain is None else ("round", ring_for(chain))

    def is_enough(self, waiting):
        """Whether the table is safe behind what these waits cut."""
        return self.chain_of(kept_table(self.table, waiting)) is None


def _tried(trial, waiting, at):
    """The pair of waits and None, or of None and the tree; the orders from this index on are open."""
    trial.look_at()
    leaf = trial.leaf(waiting, at)
    if leaf is not None:
        return (None, leaf)
    if trial.is_enough(waiting):
        return (waiting, None)
    # With no order open the two tables of a partial wait are the same, so there is one here.
    order = trial.orders[at]
    waits, first = _tried(trial, waiting + (order,), at + 1)
    if waits is not None:
        return (waits, None)
    waits, second = _tried(trial, waiting, at + 1)
    return (waits, None) if waits is not None else (None, (order, first, second))


def waits_or_tree(table, may, tries):
    """The pair of the waits with which the trial ends and None, or of None and the tree if it ends without."""
    return _tried(Trial(table, may, tries), (), 0)


def first_waits(many, table, may, *, tries=200):
    """The first waits of these orders with which the plan is calm, or None if there are none."""
    return waits_or_tree(table, may, tries)[0]


def tree_of(many, table, may, *, tries=200):
    """The tree that shows that no waits of these orders are calm with the table, or None if some are."""
    return waits_or_tree(table, may, tries)[1]
