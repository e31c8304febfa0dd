"""What comes behind steps from one word, found by walking."""

from scatterbooks.checks import check_book, check_word
from scatterbooks.errors import NotEnding, TooMany
from scatterbooks.moves import next_words, unwound

LONGEST_WORD = 8
MOST_WORDS = 1500


def steps(book, word):
    """The ascending tuple of all words to which a word can be turned in one step."""
    check_start(book, word)
    return next_words(book[1], word)


def all_come(book, word):
    """The ascending list of all words that come behind steps, however many, the word among them."""
    return sorted(walk(book, word))


def walked_rests(book, word):
    """The ascending list of those words at rest that come behind steps."""
    return sorted([come for come, found in walk(book, word).items() if not found])


def goes_on(book, word):
    """Whether some run of steps from a word goes on for ever."""
    graph = walk(book, word)
    return len(unwound(graph)) < len(graph)


def longest(book, word):
    """How many steps a run from a word makes at most."""
    graph = walk(book, word)
    order = unwound(graph)
    if len(order) < len(graph):
        raise NotEnding("some run from the word goes on for ever")
    lengths = {}
    for come in order:
        lengths[come] = max([lengths[follower] + 1 for follower in graph[come]], default=0)
    return lengths[word]


def check_start(book, word):
    """Raise BadBook or BadWord for values from which no walk starts."""
    check_book(book)
    check_word(word, book[0], LONGEST_WORD)


def walk(book, word):
    """The graph, as of unwound, of all words that come behind steps from a word."""
    check_start(book, word)
    graph = {}
    waiting = [word]
    while waiting:
        come = waiting.pop()
        if come not in graph:
            if len(graph) == MOST_WORDS:
                raise TooMany(MOST_WORDS)
            graph[come] = next_words(book[1], come)
            waiting.extend(graph[come])
    return graph
