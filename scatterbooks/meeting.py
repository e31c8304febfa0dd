"""Whether all runs from a word lead to one rest, for all words at once."""

from scatterbooks.errors import NotEnding
from scatterbooks.moves import next_words, unwound
from scatterbooks.towers import ends


def has_one_rest(book):
    """Whether from each word, of any length, all runs that go on until a rest lead to one and the same."""
    return clash(book) is None


def clash(book):
    """The shortest word, the least among those, with more than one rest, and its two least, None without any."""
    if not ends(book):
        raise NotEnding("from some word a run goes on for ever")
    many, rules = book
    words = [()]
    # Two steps that share a place stand in fewer letters than two left sides; without one, neither bars the other.
    for _ in range(2 * longest_side(rules) - 1):
        words = longer_words(words, many)
        rests = least_rests(rules, words)
        for word in words:
            if len(rests[word]) > 1:
                return (word, *rests[word])
    return None


def longest_side(rules):
    """How many letters the longest of some rules has on a side, 0 without any."""
    return max([len(left) for left, _ in rules], default=0)


def longer_words(words, many):
    """All words that are one of some words and one of so many letters behind it, in order."""
    return [word + (letter,) for word in words for letter in range(many)]


def least_rests(rules, words):
    """A dict of words of one length, all of them, each with a list of its rests, the two least at most."""
    graph = {word: next_words(rules, word) for word in words}
    rests = {}
    for word in unwound(graph):
        found = [calm for follower in graph[word] for calm in rests[follower]]
        rests[word] = sorted(set(found))[:2] if found else [word]
    return rests
