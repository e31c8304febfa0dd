"""Values that differ a little from others, and books of every growth."""

from scatterbooks.booktext import read_book
from values import FREE, SORTS, TWELVE

# Books with the growth that they have.
LINEAR = [read_book(text) for text in (
    "1:", "2:", "3:", "4:", "2: 10>00", "2: 11>00", "3: 01>22 2>0", "3: 1>2 2>0", "3: 000>111 11>20",
    "4: 0>1 1>2 2>3", "4: 000>123 111>230 222>300", "3: 012>000 11>20 22>10", "2: 011>100 101>010",
    "4: 000>001 001>011 011>111 111>222 222>333", "3: 002>111 111>000 2>0")]
POLYNOMIAL = [SORTS] + [read_book(text) for text in (
    "3: 01>20 10>00 12>21 22>12", "3: 121>211 201>120", "4: 122>221 213>132", "2: 011>101", "3: 200>020",
    "4: 001>010 003>113 1>2 211>102 231>013", "3: 10>01 20>02 21>12", "2: 100>010 110>011", "3: 10>01 211>021")]
GREATER = [read_book(text) for text in (
    "3: 11>21 20>12 21>10", "3: 01>20 02>21 200>000 210>000 211>000 212>000 220>000 221>000")]
ENDLESS = [FREE, (4, TWELVE)] + [read_book(text) for text in (
    "2: 01>10 10>01", "3: 0>1 1>2 2>0", "2: 00>11 1>0", "3: 0>1 02>00 1>0 222>022")]


def changed_integers(value):
    """All values that differ from one by 1 at one of its integers."""
    if isinstance(value, int):
        yield value + 1
        yield value - 1
    elif isinstance(value, tuple):
        for at, item in enumerate(value):
            for other in changed_integers(item):
                yield value[:at] + (other,) + value[at + 1:]


def odd_items(value):
    """All values that differ from one at one of its items, in any depth, by a value of another kind."""
    yield from (None, True, False, 1, "", "early", [], {}, (), (None,), list(value) if isinstance(value, tuple) else -1)
    if isinstance(value, tuple):
        yield value + (0,)
        yield value + value[-1:] + value[-1:]
        yield value[:-1]
        for at, item in enumerate(value):
            for other in odd_items(item):
                yield value[:at] + (other,) + value[at + 1:]


def holds_true_or_false(value):
    """Whether True or False stands somewhere in a value."""
    return isinstance(value, bool) or isinstance(value, tuple) and any(map(holds_true_or_false, value))
