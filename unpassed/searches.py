"""A search for shortest texts, used wherever the document asks for one."""


def shortest_text(starts, letters, step, is_end):
    """A shortest tuple of letters that leads from one of starts to an end, None if there is none.

    step(node, letter) is the node to which the letter leads from node, is_end(node) whether node is an end.
    """
    ahead = {start: None for start in starts}
    row = list(starts)
    while row:
        for node in row:
            if is_end(node):
                return text_to(ahead, node)
        row = next_row(row, letters, step, ahead)
    return None


def next_row(row, letters, step, ahead):
    """The nodes that letters reach from those of row for the first time; ahead keeps from where, and by which."""
    found = []
    for node in row:
        for letter in letters:
            reached = step(node, letter)
            if reached not in ahead:
                ahead[reached] = (node, letter)
                found.append(reached)
    return found


def text_to(ahead, node):
    """The letters that led to node, by what ahead keeps."""
    letters = []
    came = ahead[node]
    while came is not None:
        letters.append(came[1])
        came = ahead[came[0]]
    return tuple(letters[::-1])
