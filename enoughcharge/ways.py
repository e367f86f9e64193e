"""Ways through a map: a dict that has for each node the list of its legs, triples (label, node behind it, cost).

The nodes are moments, with steps between them, or wakings, with falls between them.
"""

ENDLESS = "endless"


class Ways:
    """All nodes to which legs lead from a start, the start included, and the most that the legs to them can cost."""

    def __init__(self, start, met, spent, last, order):
        self.start = start
        # For each node but the start: the triple (node ahead, label, cost) that ends a shortest way to it.
        self.met = met
        # For each node the most that a way to it can cost: a number or ENDLESS.
        self.spent = spent
        # As met, but for a way that costs most. An endless node has an endless one ahead.
        self.last = last
        # The nodes that are not endless, each one behind all that have legs to it.
        self.order = order


def ways_from(roads, start):
    """All ways through this map from a start."""
    met = shortest_from(roads, start)
    settled, ahead = settled_from(roads, met, start)
    spent = {}
    last = {}
    for node in met:
        spent[node] = settled.get(node, ENDLESS)
        if node in settled and node != start:
            last[node] = ahead[node]
    for node in met:
        if node not in settled:
            for label, after, cost in roads[node]:
                last[after] = (node, label, cost)
    return Ways(start, met, spent, last, list(settled))


def shortest_from(roads, start):
    """For each node to which legs lead, the triple (node ahead, label, cost) by which it is met first; the start has
    None.
    """
    met = {start: None}
    line = [start]
    at = 0
    while at < len(line):
        node = line[at]
        for label, after, cost in roads[node]:
            if after not in met:
                met[after] = (node, label, cost)
                line.append(after)
        at = at + 1
    return met


def settled_from(roads, met, start):
    """The most that can be spent up to each node that no round leads to, in an order in which legs lead on alone;
    and the triple (node ahead, label, cost) that ends a way on which so much is spent.
    """
    arrivals = {}
    for node in met:
        for leg in roads[node]:
            arrivals[leg[1]] = arrivals.get(leg[1], 0) + 1
    spent = {start: 0}
    ahead = {}
    settled = {}
    ready = [node for node in met if node not in arrivals]
    while ready:
        node = ready.pop()
        settled[node] = spent[node]
        for label, after, cost in roads[node]:
            if after not in spent or spent[after] < spent[node] + cost:
                spent[after] = spent[node] + cost
                ahead[after] = (node, label, cost)
            arrivals[after] = arrivals[after] - 1
            if arrivals[after] == 0:
                ready.append(after)
    return (settled, ahead)


def labels_back(ahead, start, node):
    """The tuple of the labels on the way from the start to a node, by what each node has ahead."""
    labels = []
    while node != start:
        node, label, _ = ahead[node]
        labels.append(label)
    return tuple(labels[::-1])


def round_way(ways, node):
    """For an endless node the labels ahead of a round, those of the round and those behind it, up to the node;
    and what the round costs.
    """
    passed = {}
    labels = []
    costs = []
    while node not in passed:
        passed[node] = len(labels)
        before, label, cost = ways.last[node]
        labels.append(label)
        costs.append(cost)
        node = before
    many = passed[node]
    ahead = labels_back(ways.met, ways.start, node)
    cost = sum([int(each) for each in costs[many:]])
    return (ahead, tuple(labels[many:][::-1]), tuple(labels[:many][::-1]), cost)


def endless_node(ways):
    """Any node to which a round leads, None if there is none."""
    for node in ways.spent:
        if ways.spent[node] == ENDLESS:
            return node
    return None


def heights(roads, order):
    """The greatest number of legs that can still follow behind each node; order as in Ways, without endless nodes."""
    found = {}
    for node in order[::-1]:
        found[node] = max([int(found[leg[1]] + 1) for leg in roads[node]], default=0)
    return found
