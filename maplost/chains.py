"""Rows and rings by arrows, which are tuples of two nodes; nodes are integers and strings."""


def ordered(nodes, pairs):
    """The nodes, each behind all from which arrows lead to it, without those that rings keep back."""
    targets = {node: [] for node in nodes}
    incoming = {node: 0 for node in nodes}
    for a, b in pairs:
        targets[a].append(b)
        incoming[b] += 1
    free = [node for node in nodes if incoming[node] == 0]
    order = []
    while free:
        node = free.pop()
        order.append(node)
        for target in targets[node]:
            incoming[target] -= 1
            if incoming[target] == 0:
                free.append(target)
    return order


def find_ring(nodes, pairs):
    """A tuple of different nodes that are in a ring, or None if there is none."""
    free = {node: True for node in ordered(nodes, pairs)}
    kept = [node for node in nodes if node not in free]
    if not kept:
        return None
    # To each node that is kept back some arrow leads from such a node, so the walk backwards comes round.
    before = {b: a for a, b in pairs if a not in free}
    walk = []
    node = kept[0]
    while node not in walk:
        walk.append(node)
        node = before[node]
    return tuple(walk[walk.index(node):][::-1])


def heights(nodes, pairs):
    """For each node the greatest number of arrows in a row that ends in it; there is no ring."""
    sources = {node: [] for node in nodes}
    for a, b in pairs:
        sources[b].append(a)
    height = {}
    for node in ordered(nodes, pairs):
        height[node] = max([height[source] + 1 for source in sources[node]], default=0)
    return height


def longest_row(nodes, pairs):
    """A longest row by arrows, the empty tuple if there are no arrows; there is no ring."""
    if not pairs:
        return ()
    height = heights(nodes, pairs)
    before = {b: a for a, b in pairs if height[b] == height[a] + 1}
    top = max([height[node] for node in nodes])
    row = [[node for node in nodes if height[node] == top][0]]
    while row[-1] in before:
        row.append(before[row[-1]])
    return tuple(row[::-1])


def is_chain(pairs, value):
    """Whether each item of a tuple and the next one are one of the arrows."""
    return all([pair in pairs for pair in zip(value, value[1:])])


def reached(pairs, start):
    """The dict of the nodes to which arrows lead from a node, one or several in a row."""
    nodes = {}
    fresh = [start]
    while fresh:
        node = fresh.pop()
        for a, b in pairs:
            if a == node and b not in nodes:
                nodes[b] = True
                fresh.append(b)
    return nodes
