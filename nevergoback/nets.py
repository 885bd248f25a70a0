"""Stage 13: nets, in which nodes go on and packets hop."""

from nevergoback.errors import CannotGo, CannotHop, InvalidLinks, NothingDone, Refused, UnknownName
from nevergoback.links import require_links, ways_of
from nevergoback.looks import require_table, require_waits
from nevergoback.orders import is_number, order_of
from nevergoback.routes import distances, shortest_round

MOST_DEEDS = 200
# How many parts a deed has, its word among them.
PARTS = {"go": 2, "put": 3, "hop": 3}


def _is_deed(value):
    """Whether any value is told as deeds are, whether it can be done or not."""
    if not isinstance(value, tuple) or value == () or not isinstance(value[0], str):
        return False
    return value[0] in PARTS and len(value) == PARTS[value[0]]


def _are_deeds(value):
    """Whether any value is a tuple of not too many deeds."""
    return isinstance(value, tuple) and len(value) <= MOST_DEEDS and all([_is_deed(deed) for deed in value])


class Net:
    """A net of nodes that hold their distances to the target, and what was done in it."""

    def __init__(self, many, table, waits, links):
        require_table(many, table)
        require_waits(many, waits)
        require_links(many, links)
        self._made = (many, table, waits, links)
        ways = ways_of(links)
        columns = [distances(ways, place) for place in range(many)]
        if len(columns[0]) < len(ways):
            raise InvalidLinks(len(links))
        self._numbers = {name: tuple([column[name] for column in columns]) for name in ways}
        self._at_target = {name: None in [other for other, lengths in ways[name]] for name in ways}
        others = {name: sorted([other for other, lengths in ways[name] if other is not None]) for name in ways}
        # The orders never change, so they are worked out but once.
        self._orders = {
            name: {other: order_of(self._numbers[name] + self._numbers[other]) for other in others[name]}
            for name in ways}
        waiting = {order: True for order in waits}
        self._waiting = {
            name: [other for other in others[name] if self._orders[name][other] in waiting] for name in ways}
        self._looks = {look: True for look in table}
        self._standings = {name: 0 for name in ways}
        self._paths = {}
        self._done = []

    def __len__(self):
        return len(self._done)

    def __eq__(self, other):
        return isinstance(other, Net) and self._made == other._made and self._done == other._done

    def __iadd__(self, other):
        if not _are_deeds(other):
            raise Refused(-1, None)
        for index, deed in enumerate(other):
            reason = self._refusal(deed)
            if reason is not None:
                for _ in range(index):
                    self.undo()
                raise Refused(index, reason)
        return self

    def _refusal(self, deed):
        """Does a deed and returns None, or returns the name of the error that it raises."""
        try:
            self._do(deed)
        except UnknownName:
            return "UnknownName"
        except CannotGo:
            return "CannotGo"
        except CannotHop:
            return "CannotHop"
        return None

    def _do(self, deed):
        """Does a deed as it is told."""
        if deed[0] == "go":
            self.go(deed[1])
        elif deed[0] == "put":
            self.put(deed[1], deed[2])
        else:
            self.hop(deed[1], deed[2])

    def _require_name(self, value):
        """Any value, if it is the name of a node."""
        if not isinstance(value, str) or value not in self._numbers:
            raise UnknownName(value)
        return value

    def _has_packet(self, value):
        """Whether any value is a packet of the net."""
        # True is found where 1 is a key, so the kind of the value comes first.
        return is_number(value) and value in self._paths

    def _may_hand_on(self, name, other):
        """Whether a node may hand on to this neighbour."""
        return (self._standings[name], self._standings[other], self._orders[name][other]) in self._looks

    def names(self):
        """The ascending tuple of the names of all nodes."""
        return tuple(self._numbers)

    def numbers(self, name):
        """The distances of the node to the target."""
        return self._numbers[self._require_name(name)]

    def standing(self, name):
        """0 before the node went on, then 1."""
        return self._standings[self._require_name(name)]

    def node(self, name):
        """The node's standing and numbers."""
        return (self.standing(name),) + self.numbers(name)

    def neighbours(self, name):
        """The ascending tuple of the node's neighbours, without the target."""
        return tuple(self._orders[self._require_name(name)])

    def waited_for(self, name):
        """The ascending tuple of those for whom the node waits, none if it has gone on."""
        if self.standing(name) == 1:
            return ()
        return tuple([other for other in self._waiting[name] if self._standings[other] == 0])

    def ways_on(self, name):
        """The ascending tuple of the neighbours to whom the node may hand on."""
        return tuple([other for other in self.neighbours(name) if self._may_hand_on(name, other)])

    def go(self, name):
        """Lets the node go on to the new lengths."""
        waited = self.waited_for(name)
        if waited or self._standings[name] == 1:
            raise CannotGo(waited)
        self._standings[name] = 1
        self._done.append(("go", name))

    def put(self, packet, name):
        """Puts a new packet to the node."""
        self._require_name(name)
        if not is_number(packet) or packet < 0 or packet in self._paths:
            raise CannotHop()
        self._paths[packet] = [name]
        self._done.append(("put", packet, name))

    def _can_hop(self, packet, name):
        """Whether, with any values, the packet can hop there."""
        if not self._has_packet(packet):
            return False
        at = self._paths[packet][-1]
        if at is None or name is None:
            return at is not None and self._at_target[at]
        return isinstance(name, str) and name in self._orders[at] and self._may_hand_on(at, name)

    def hop(self, packet, name):
        """Lets the packet hop from its node to a neighbour, or to the target (None)."""
        if not self._can_hop(packet, name):
            raise CannotHop()
        self._paths[packet].append(name)
        self._done.append(("hop", packet, name))

    def path(self, packet):
        """The tuple of the names at which the packet was, None behind them for the target."""
        if not self._has_packet(packet):
            raise UnknownName(packet)
        return tuple(self._paths[packet])

    def is_still(self):
        """Whether some nodes have not gone on and each of these waits."""
        left = [name for name in self._standings if self._standings[name] == 0]
        return len(left) > 0 and all([len(self.waited_for(name)) > 0 for name in left])

    def left_empty(self):
        """The ascending tuple of the names without a link to the target that may hand on to nobody."""
        return tuple([name for name in self._numbers if not self._at_target[name] and self.ways_on(name) == ()])

    def ring(self):
        """A shortest ring of names, or None."""
        return shortest_round({name: self.ways_on(name) for name in self._numbers})

    def mixture(self):
        """The ascending tuple of the names that have gone on."""
        return tuple([name for name in self._standings if self._standings[name] == 1])

    def deeds(self):
        """The tuple of all deeds done."""
        return tuple(self._done)

    def twin(self):
        """A net of its own with the same links and deeds."""
        many, table, waits, links = self._made
        net = Net(many, table, waits, links)
        for deed in self.deeds():
            net._do(deed)
        return net

    def undo(self):
        """Undoes the last deed, as if it had never been done."""
        if not self._done:
            raise NothingDone()
        deed = self._done.pop()
        if deed[0] == "go":
            self._standings[deed[1]] = 0
        elif deed[0] == "put":
            del self._paths[deed[1]]
        else:
            self._paths[deed[1]].pop()
