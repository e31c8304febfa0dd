"""Values that several tests use."""

import itertools

SORTS = (2, (((1, 0), (0, 1)),))

# Twelve ascending rules on four letters.
TWELVE = tuple(((a,), (b,)) for a, b in itertools.permutations(range(4), 2))

# Values that are no book, no order and no text.
ODD_VALUES = [
    None, True, False, 0, 1, -1, 7, 10 ** 40, (), [], {}, (2,), [2, ()], {2: ()}, {2: (), 3: ()},
    (True,), (None, None), ((), ()), ([], []), ({}, {}), [[2, []]], (((((),),),),), ({"a": [1, (2,)]},),
]

# Pairs that are no pair of a number of letters and a tuple of at most 12 items.
NO_FRAMES = [
    [2, ()], (2, []), (2, {}), (2, None), (2, ""), (2, "ab"), (2, 0), (2, True), (2, [((1,), (0,))]), {2: (), 3: ()},
    (0, ()), (5, ()), (-1, ()), (10 ** 40, ()), (True, ()), (False, ()), (None, ()), ("2", ()), ((2,), ()), ([2], ()),
    (2,), (2, (), ()), (2, (), None), "2:", "ab", ((), 2), (2, (None,) * 13), (4, TWELVE + (((3, 3), (3, 2)),)),
    (5, (((0,), (0,)),)), (True, (((0,), (0,)),)), [2, (((0,), (0,)),)],
]

# Items that are no rule on two letters.
NO_RULES = [
    None, True, 0, 1, "", "01", "1>0", (), [], {}, ((0,),), ((0,), (1,), (0,)), [(0,), (1,)], {(0,): (1,), (1,): (0,)},
    ((0,), (1, 1)), ((0, 0), (1,)), ((0, 0, 0), (1, 1)), ((), (1,)), ((0,), ()), ((), ()),
    ((0, 0, 0, 0), (1, 1, 1, 1)), ((0, 0, 0, 0), (1,)), ((0,), (0, 0, 0, 0)),
    ((0,), (0,)), ((0, 1), (0, 1)), ((1, 0, 1), (1, 0, 1)),
    ((0,), (2,)), ((2,), (0,)), ((0,), (-1,)), ((-1,), (0,)), ((0, 0), (0, 2)), ((0, 0, 7), (0, 0, 0)),
    ((True,), (0,)), ((0,), (True,)), ((False,), (1,)), ((0, True), (0, 0)), ((0, 0), (0, True)),
    ([0], (1,)), ((0,), [1]), ([0], [1]), ("0", "1"), (0, 1), ({0: 1}, (1,)), ((0,), None),
    ((None,), (0,)), (("0",), (1,)), (((0,),), (1,)), (([0],), (1,)), ((0,), ({},)), ((10 ** 40,), (0,)),
]


def every_rule(many, sizes=(1, 2, 3)):
    """All rules on so many letters with sides of these lengths, ascending."""
    found = []
    for size in sizes:
        words = list(itertools.product(range(many), repeat=size))
        found.extend((left, right) for left in words for right in words if left != right)
    return sorted(found)


def many_books():
    """Books of many shapes, the same ones in each run."""
    found = [(many, ()) for many in (1, 2, 3, 4)]
    for many in (2, 3, 4):
        rules = every_rule(many)
        step = 1 if many == 2 else 7 if many == 3 else 61
        found.extend((many, (rule,)) for rule in rules[::step])
        for stride in range(1, 40):
            for start in range(0, len(rules), max(1, len(rules) // 9)):
                found.append((many, tuple(rules[start::stride][:1 + (start + stride) % 12])))
    found.append((4, TWELVE))
    return found


FREE = (2, (((0,), (1,)), ((1,), (0,))))
MEET = (2, (((1, 1), (0, 1)), ((1, 1), (1, 0))))

# Values that are no book, with the index that the error names.
BAD_BOOKS = [(book, None) for book in NO_FRAMES + ODD_VALUES]
BAD_BOOKS += [((2, (item,)), 0) for item in NO_RULES]
BAD_BOOKS += [((2, (((0,), (1,)), item)), 1) for item in NO_RULES + [((0,), (1,))]]
BAD_BOOKS += [((2, (((0, 1), (1, 1)), ((0,), (1,)))), 1), ((4, TWELVE[:11] + (TWELVE[0],)), 11)]

# Values that are no word of two letters, whatever its length, with the index that the error names.
BAD_WORDS = [(value, None) for value in ODD_VALUES if not isinstance(value, tuple)]
BAD_WORDS += [([0, 1], None), ("", None), ("01", None), ({0: 1}, None), (10 ** 40, None)]
BAD_WORDS += [((item,), 0) for item in (2, -1, 10 ** 40, True, False, None, "0", "", (0,), (), [0], {}, {0: 1})]
BAD_WORDS += [((0, 1, item, item), 2) for item in (2, -1, 10 ** 40, True, False, None, "0", (0,), [0], {})]
BAD_WORDS += [((0, 2, -1), 1), ((0, 0, 0, 0, 0, 0, 0, 2), 7), ((True, 2), 0), ((0, 1, 0, None, [], 2), 3)]


def all_words(many, size):
    """All words of one length, ascending."""
    return list(itertools.product(range(many), repeat=size))


def short_words(many, most):
    """All words up to a length, the shorter ones first."""
    return [word for size in range(most + 1) for word in all_words(many, size)]
