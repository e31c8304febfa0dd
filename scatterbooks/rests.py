"""The rests of words, for books with one rest for each word, and books that are alike in them."""

from scatterbooks.checks import check_word
from scatterbooks.errors import NotOneRest
from scatterbooks.meeting import has_one_rest
from scatterbooks.moves import first_step

LONGEST_WORD = 20


def rest(book, word):
    """The rest of a word."""
    # The least book has the same rest in fewer steps, as each of its rules goes on until a rest.
    many, rules = least_book(book)
    check_word(word, many, LONGEST_WORD)
    return settled(rules, word)


def alike(book, other):
    """Whether two books have as many letters, and the same rest for each word of any length."""
    # A least book is made of nothing but rests, and is alike with the book that it is made of.
    return least_book(book) == least_book(other)


def least_book(book):
    """The book of fewest rules among those that are alike with a book."""
    if not has_one_rest(book):
        raise NotOneRest("some word has more than one rest")
    many, rules = book
    # A word that needs all its letters for a step is a left side.
    lefts = sorted({left for left, _ in rules})
    return (many, tuple([(left, settled(rules, left)) for left in lefts if needs_all(rules, left)]))


def needs_all(rules, word):
    """Whether all words with one of a word's letters left out are at rest."""
    shorter = [word[:at] + word[at + 1:] for at in range(len(word))]
    return all(first_step(rules, less) is None for less in shorter)


def settled(rules, word):
    """The word at rest to which steps lead from a word."""
    calm = ()
    # Letter by letter, as most runs are shorter where what stands ahead is at rest.
    for letter in word:
        changed = calm + (letter,)
        while changed is not None:
            calm = changed
            changed = first_step(rules, calm)
    return calm
