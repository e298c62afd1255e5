"""Graphs with roots that are the same, shown by a map from the objects of the one to those of the other."""

from halfbuilt.graphs import reached


def same(one, roots, other, others):
    """A dict from the objects of one graph to those of the other that shows that both are the same, or None."""
    nodes = {**_nodes_of(one, roots, 0), **_nodes_of(other, others, 1)}
    return _matched(nodes, _numbered({node: nodes[node][0] for node in nodes}))


def is_same(one, roots, other, others, thing):
    """Whether any value is a dict that shows that both are the same."""
    left, right = reached(one, roots), reached(other, others)
    if not isinstance(thing, dict) or len(thing) != len(left) or not all([name in thing for name in left]):
        return False
    images = [thing[name] for name in left]
    if not all([isinstance(image, str) for image in images]) or sorted(images) != right:
        return False
    if [thing[root] for root in roots] != list(others):
        return False
    return all([_is_image(one, name, other, thing) for name in left])


def _is_image(one, name, other, images):
    """Whether an object and its image have the same class, numbers, and words that are images of one another."""
    image = images[name]
    if _class_row(one, name) != _class_row(other, image):
        return False
    for slot in one.schema.slots(one.class_of(name)):
        mapped = [images[word] if isinstance(word, str) else word for word in one.words(name, slot[0])]
        words = list(other.words(image, slot[0]))
        if mapped != words and (slot[2] != "set" or not _are_among(mapped, words)):
            return False
    return True


def _are_among(words, others):
    return len(words) == len(others) and all([word in others for word in words])


def _class_row(graph, name):
    """What is kept of the class of an object, in two schemas too: its name and its slots."""
    return (graph.class_of(name), graph.schema.slots(graph.class_of(name)))


def _nodes_of(graph, roots, side):
    """A dict from nodes (side, object) to pairs of what cannot be mapped to anything else, and the words.

    The words are a list of lists, one for each slot, of triples (place, 0, number) or (place, 1, node); the words of
    a set are all at the place 0.
    """
    nodes = {}
    for name in reached(graph, roots):
        places = tuple([index for index, root in enumerate(roots) if root == name])
        words = []
        for slot in graph.schema.slots(graph.class_of(name)):
            words.append([_placed(0 if slot[2] == "set" else k, word, side)
                          for k, word in enumerate(graph.words(name, slot[0]))])
        nodes[(side, name)] = ((places, _class_row(graph, name)), words)
    return nodes


def _placed(place, word, side):
    return (place, 1, (side, word)) if isinstance(word, str) else (place, 0, word)


def _numbered(marks):
    """The same dict with a number in the place of each mark, for equal marks the same one."""
    ordered = sorted(set(list(marks.values())))
    numbers = {mark: number for number, mark in enumerate(ordered)}
    return {node: numbers[marks[node]] for node in marks}


def _matched(nodes, colors):
    """A map that keeps colors and words, None if there is none. Nodes of different colors are never mapped."""
    colors = _refined(nodes, colors)
    left = {node[1]: colors[node] for node in colors if node[0] == 0}
    right = {node[1]: colors[node] for node in colors if node[0] == 1}
    if sorted(list(left.values())) != sorted(list(right.values())):
        return None
    images = {name: [image for image in right if right[image] == left[name]] for name in left}
    doubtful = [name for name in images if len(images[name]) > 1]
    if not doubtful:
        return {name: images[name][0] for name in images}
    chosen = doubtful[0]
    for image in images[chosen]:
        # No other node has this color.
        found = _matched(nodes, {**colors, (0, chosen): -1, (1, image): -1})
        if found is not None:
            return found
    return None


def _refined(nodes, colors):
    """Colors in which nodes are alike only if their words, and the words that they are, have like colors."""
    many = 0
    while len(set(list(colors.values()))) > many:
        many = len(set(list(colors.values())))
        marks = {node: (colors[node], [], []) for node in nodes}
        for node in nodes:
            for at, words in enumerate(nodes[node][1]):
                for place, is_node, word in words:
                    marks[node][1].append((at, place, is_node, colors[word] if is_node == 1 else word))
                    if is_node == 1:
                        marks[word][2].append((at, place, colors[node]))
        colors = _numbered({node: (marks[node][0], tuple(sorted(marks[node][1])), tuple(sorted(marks[node][2])))
                            for node in marks})
    return colors
