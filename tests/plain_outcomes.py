"""What parsers build of all short texts, told plainly: text by text, by a parser that keeps all moments."""

import plain_labels
import plain_parsers
from small import some_texts


def order(text):
    """What least texts are compared by."""
    return len(text), text


class Outcomes:
    """The outcomes of all texts of few terminals, and the cells that their runs meet."""

    def __init__(self, parser, most=6, limit=1000):
        self.parser = parser
        self.texts = sorted(some_texts(parser.grammar, most, limit), key=order)
        self.most = len(self.texts[-1])
        self.trees, self.endless, self.cells = {}, [], {}
        for text in self.texts:
            (word, found), steps = plain_parsers.run(parser.table, parser.resolution, text)
            if word == "tree":
                self.trees[text] = found
            elif word == "endless":
                self.endless.append(text)
            for stack, ahead, action in steps:
                self.cells.setdefault((stack[-1], ahead), text)

    def least_beyond(self, bars):
        """The least short text with a tree that breaks a bar, or None."""
        return next((text for text in self.texts if text in self.trees
                     and plain_labels.broken(bars.bars, self.trees[text])), None)

    def least_outside(self, other):
        """The least short text of which the other parser does not build the same tree, or None."""
        return next((text for text in self.texts if text in self.trees
                     and self.trees[text] != other.trees.get(text)), None)


def long_lines(last):
    """The lines of a grammar whose texts have 60 terminals with "C C C", and more with more behind; D is told behind."""
    return [f"s: S -> {last}", "c: C -> D D D D", "d: D -> x x x x x"]
