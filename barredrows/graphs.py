"""Steps between nodes: how far they go, and rings of them.

A dict `after` has for each node a dict from the nodes one step further to what is written on this step.
"""


def heights(after):
    """How many steps can be taken at most from each node, without the nodes from which there are endless ones."""
    before = {node: [] for node in after}
    for node in after:
        for further in after[node]:
            before[further].append(node)
    left = {node: len(after[node]) for node in after}
    done = [node for node in after if left[node] == 0]
    high = {node: 0 for node in done}
    at = 0
    # Nodes are done in the order of their heights, so the last one that a node waits for is its highest.
    while at < len(done):
        last = done[at]
        at += 1
        for node in before[last]:
            left[node] -= 1
            if left[node] == 0:
                high[node] = high[last] + 1
                done.append(node)
    return high


def furthest(nodes, high):
    """One of the nodes from which most steps can be taken."""
    endless = len(high)
    return max(list(nodes), key=lambda node: high.get(node, endless))


def furthest_path(after, high, start, steps):
    """The nodes of so many steps from the start, each one to a node from which most steps can be taken."""
    chosen = {}
    nodes = [start]
    for _ in range(steps):
        node = nodes[-1]
        if node not in chosen:
            chosen[node] = furthest(after[node], high)
        nodes.append(chosen[node])
    return nodes


def path_and_ring(after, high, start):
    """The nodes from a start with endless steps to some node, and those from this one back to it."""
    nodes = [start]
    places = {}
    while nodes[-1] not in places:
        places[nodes[-1]] = len(nodes) - 1
        nodes.append(furthest(after[nodes[-1]], high))
    ring = places[nodes[-1]]
    return nodes[:ring + 1], nodes[ring:]


def written_on(after, nodes):
    """What is written on the steps from each of these nodes to the next one."""
    return [after[node][further] for node, further in zip(nodes, nodes[1:])]
