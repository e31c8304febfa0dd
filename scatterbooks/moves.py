"""Steps between words, for values that have been checked."""


def next_words(rules, word):
    """The ascending tuple of all words to which rules turn a word in one step."""
    found = [changed for rule in rules for changed in turns(rule, word)]
    return tuple(sorted(set(found)))


def turns(rule, word):
    """All words to which a rule turns a word, one for each choice of places."""
    left, right = rule
    # What is begun is the changed word up to the last place that is used so far.
    begun = [()]
    for letter, change in zip(left, right):
        begun = [start + word[len(start):at] + (change,)
                 for start in begun for at in range(len(start), len(word)) if word[at] == letter]
    return [start + word[len(start):] for start in begun]


def first_step(rules, word):
    """One of the words to which rules turn a word in one step, None for a word at rest."""
    for rule in rules:
        changed = first_turn(rule, word)
        if changed is not None:
            return changed
    return None


def first_turn(rule, word):
    """The word to which a rule turns a word at the first places that fit, None without any."""
    left, right = rule
    letters = list(word)
    at = 0
    for letter, change in zip(left, right):
        while at < len(word) and word[at] != letter:
            at += 1
        if at == len(word):
            return None
        letters[at] = change
        at += 1
    return tuple(letters)


def unwound(graph):
    """The list of the words of a graph from which no run goes on for ever, each behind all its next words.

    A graph is a dict of words, each with the tuple of its next words, which are words of the graph, too.
    """
    waiting = {word: len(found) for word, found in graph.items()}
    ahead = {word: [] for word in graph}
    for word, found in graph.items():
        for follower in found:
            ahead[follower].append(word)
    ready = [word for word in graph if waiting[word] == 0]
    done = []
    while ready:
        last = ready.pop()
        done.append(last)
        for word in ahead[last]:
            waiting[word] -= 1
            if waiting[word] == 0:
                ready.append(word)
    return done
