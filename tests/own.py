"""The document's sums once more, as plainly as can be, to judge the program's answers by."""

import itertools


def own_steps(rules, word):
    """All words to which a word can be turned in one step, as a set."""
    found = set()
    for left, right in rules:
        for places in itertools.combinations(range(len(word)), len(left)):
            if all(word[place] == letter for place, letter in zip(places, left)):
                turned = list(word)
                for place, letter in zip(places, right):
                    turned[place] = letter
                found.add(tuple(turned))
    return found


def own_come(rules, word):
    """All words that come behind steps from a word, as a dict with the steps from each."""
    known = {}
    waiting = [word]
    while waiting:
        come = waiting.pop()
        if come not in known:
            known[come] = own_steps(rules, come)
            waiting.extend(known[come])
    return known


def own_rests(rules, word):
    """The ascending list of the rests that come from a word."""
    return sorted(come for come, found in own_come(rules, word).items() if not found)


def own_longest(rules, word):
    """How many steps a run makes at most, None if one goes on for ever."""
    known = own_come(rules, word)
    lengths = {}
    while True:
        ready = [come for come in known if come not in lengths and all(step in lengths for step in known[come])]
        if not ready:
            return lengths.get(word)
        lengths.update({come: max([lengths[step] + 1 for step in known[come]], default=0) for come in ready})


def own_settled(rules, word):
    """A rest that comes from a word."""
    while True:
        found = own_steps(rules, word)
        if not found:
            return word
        word = min(found)


def own_clash(book):
    """The clash of a book that ends, by all words up to the bound of point 7."""
    many, rules = book
    for size in range(2 * max([len(left) for left, _ in rules], default=0)):
        for word in itertools.product(range(many), repeat=size):
            rests = own_rests(rules, word)
            if len(rests) > 1:
                return (word, rests[0], rests[1])
    return None


def is_count(value):
    """Whether a value is an integer not below 0, and none of True and False."""
    return type(value) is int and value >= 0


def own_tower(book, value):
    """Whether a value is a tower of a book."""
    many, rules = book
    if type(value) is not tuple:
        return False
    for level in value:
        if type(level) is not tuple or len(level) != 2 or type(level[1]) is not tuple:
            return False
        if type(level[0]) is not str or level[0] not in ("early", "even", "late"):
            return False
        if len(level[1]) != many or not all(type(item) is int for item in level[1]):
            return False
    for word, weights in value:
        still = []
        for left, right in rules:
            falls = [weights[a] - weights[b] for a, b in zip(left, right)]
            if word == "even":
                number = sum(falls)
            else:
                in_turn = falls if word == "early" else falls[::-1]
                number = next((fall for fall in in_turn if fall), 0)
            if number < 0:
                return False
            if number == 0:
                still.append((left, right))
        rules = still
    return not rules


def own_balanced(book, spread):
    """Whether a spread is balanced."""
    many, rules = book
    given = [0] * many
    taken = [0] * many
    for (left, right), numbers in zip(rules, spread):
        for at, number in enumerate(numbers):
            given[left[at]] += number
            taken[right[at]] += number
    return given == taken


def own_spread(book, value):
    """Whether a value is a spread."""
    rules = book[1]
    return type(value) is tuple and len(value) == len(rules) and all(
        type(numbers) is tuple and len(numbers) == len(rule[0]) and all(is_count(number) for number in numbers)
        for numbers, rule in zip(value, rules))


def own_knot(book, value):
    """Whether a value is a knot of a book."""
    rules = book[1]
    if type(value) is not tuple or len(value) != 3 or not all(type(item) is tuple for item in value):
        return False
    lot, firsts, lasts = value
    if len(lot) != len(rules) or not all(is_count(number) for number in lot) or sum(lot) == 0:
        return False
    if not own_balanced(book, [[number] * len(rule[0]) for number, rule in zip(lot, rules)]):
        return False
    if not all(own_spread(book, spread) and own_balanced(book, spread) for spread in firsts + lasts):
        return False
    needed = {(k, at) for k, rule in enumerate(rules) if lot[k] > 0 for at in range(len(rule[0]))}
    for spreads, toward in ((firsts, -1), (lasts, 1)):
        lit = set()
        for spread in spreads:
            now = {(k, at) for k, numbers in enumerate(spread) for at, number in enumerate(numbers) if number > 0}
            for k, at in now:
                ahead = at + toward
                if 0 <= ahead < len(rules[k][0]) and (k, ahead) not in lit:
                    return False
            lit |= now
        if lit != needed:
            return False
    return True
