"""A parser, told plainly: a list of states that is changed step by step, and all moments kept."""


def run(table, resolution, text):
    """The outcome of a text, and the steps."""
    grammar = table.grammar
    stack, parts, index, steps, moments = [0], [], 0, [], []
    while True:
        ahead = text[index] if index < len(text) else "$"
        # A moment is kept as long as no state of its stack has been taken off.
        if any(height <= len(stack) and state == stack[-1] for height, state in moments):
            return ("endless", index), steps + [(tuple(stack), ahead, None)]
        moments.append((len(stack), stack[-1]))
        action = resolution.get((stack[-1], ahead))
        steps.append((tuple(stack), ahead, action))
        if action is None:
            return ("refused", index), steps
        if action == "accept":
            return ("tree", parts[0]), steps
        if action == "shift":
            stack.append(table.after(stack[-1], ahead))
            parts.append(ahead)
            index += 1
            moments = []
        else:
            name, head, body = grammar[action]
            taken = [parts.pop() for _ in body][::-1]
            for _ in body:
                stack.pop()
            moments = [(height, state) for height, state in moments if height <= len(stack)]
            stack.append(table.after(stack[-1], head))
            parts.append((name, tuple(taken)))


def resolutions(table, chooser, many):
    """Some resolutions of a table: of random choices, with cells that are left out."""
    cells = table.cells
    yield {cell: cells[cell][0] for cell in cells}
    yield {cell: cells[cell][-1] for cell in cells}
    for _ in range(many):
        share = chooser.choice((1.0, 0.9, 0.6))
        yield {cell: chooser.choice(cells[cell]) for cell in cells if chooser.random() < share}
