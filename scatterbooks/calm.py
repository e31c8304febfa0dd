"""Words at rest: those in which no left side of a book stands scattered."""

from scatterbooks.checks import check_book, check_word, is_whole
from scatterbooks.errors import BadCount
from scatterbooks.moves import first_step, first_turn

LONGEST_WORD = 60


def at_rest(book, word):
    """Whether a word is at rest."""
    check_book(book)
    check_word(word, book[0], LONGEST_WORD)
    return first_step(book[1], word) is None


def calm_count(book, long):
    """How many words of so many letters are at rest."""
    check_book(book)
    if not is_whole(long) or not 0 <= long <= LONGEST_WORD:
        raise BadCount("not a number of letters from 0 to 60")
    many, rules = book
    lefts = sorted({left for left, _ in rules})
    start = (0,) * len(lefts)
    longer = calm_graph(many, lefts)
    counts = {begun: 1 for begun in longer}
    for _ in range(long):
        counts = {begun: sum([counts[more] for more in longer[begun]]) for begun in longer}
    return counts[start]


def calm_graph(many, lefts):
    """A dict of all that words at rest can have begun of left sides, each with the list of what comes of it.

    What is begun is a tuple of how many letters of each left side stand scattered so far. The list has an item
    for each letter with which the word stays at rest.
    """
    graph = {}
    waiting = [(0,) * len(lefts)]
    while waiting:
        begun = waiting.pop()
        if begun not in graph:
            found = [begun_with(begun, lefts, letter) for letter in range(many)]
            graph[begun] = [more for more in found if more is not None]
            waiting.extend(graph[begun])
    return graph


def begun_with(begun, lefts, letter):
    """What is begun of left sides with one letter more, None if one of them stands."""
    more = [count + 1 if left[count] == letter else count for count, left in zip(begun, lefts)]
    if any([count == len(left) for count, left in zip(more, lefts)]):
        return None
    return tuple(more)


def only_calm(book, other):
    """The shortest left side of another book, the least among those, that is at rest by a book, None without any."""
    check_book(book)
    check_book(other)
    # Each comes with its length ahead of it, as the shortest is asked for.
    found = [(len(left), left) for left, _ in other[1] if all(first_turn(rule, left) is None for rule in book[1])]
    return min(found)[1] if found else None
