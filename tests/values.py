"""Values of every kind that may be passed, and how the tests compare and call."""

import itertools

GREATEST_GAP = 10 ** 30
LONG = 10 ** 999 + 7  # an integer of 1,000 digits


def nested(deep):
    value = 1
    for turn in range(deep):
        value = ((value,), [value], {"a": value})[turn % 3]
    return value


# None of these is an integer, although some of them are equal to one or contain one.
NO_INTEGERS = (
    True, False, None, "", "1", "0", "2", "one", "1\n", [], [1], [0], (), (1,), (0,), (1, 2), ((),),
    (True,), (None, 1), {}, {1: 1}, {0: 0}, {"a": [1, (2, {})]}, [[1], (1,)], b"", b"1", nested(50),
)
INTEGERS = (0, 1, 2, 3, 4, 8, 9, -1, -2, GREATEST_GAP, GREATEST_GAP + 1, LONG, -LONG)

PLANS = (
    (1, (1,)),
    (3, (1,)),
    (1, (GREATEST_GAP,)),
    (1, (2, 4, 4)),
    (2, (1, 2, 3)),
    (2, (2, 2, 2, 3)),
    (3, (5, 1, 2)),
    (3, (1, 2, 3, 4, 5, 6, 7, 8)),
    (1, (GREATEST_GAP,) * 8),
    (3, (1,) * 8),
)

# Each has just 1,000 STANDINGS.
THOUSAND_PLANS = (
    (1, (1000,)), (1, (1, 1000)), (1, (2, 500)), (1, (10, 10, 10)), (1, (2, 2, 250)), (1, (2, 5, 100)),
    (1, (2, 4, 5, 25)), (1, (5, 2, 4, 25)), (2, (1, 1, 1000)), (2, (2, 2, 2, 5, 25)), (2, (5, 2, 4, 5, 5)),
    (2, (5, 2, 5, 2, 10)), (3, (1, 1, 10, 100)), (3, (2, 2, 2, 5, 5, 5)), (3, (5, 1, 2, 2, 2, 1, 5, 5)),
)
# Each has more.
GREAT_PLANS = (
    (1, (1001,)), (1, (7, 11, 13)), (1, (1, 1, 1001)), (2, (1001, 1)), (3, (143, 7)), (3, (2,) * 7 + (8,)),
    (1, (GREATEST_GAP,)), (1, (GREATEST_GAP,) * 8), (2, (1, GREATEST_GAP, 1)),
)
# Plans and a right ROUND of each.
ROUNDS = (
    ((1, (1,)), ((0,),)),
    ((1, (7,)), ((0,), (), (), (), (), (), ())),
    ((1, (2, 2)), ((0,), (1,))),
    ((1, (2, 4, 4)), ((0,), (1,), (0,), (2,))),
    ((1, (3, 4, 5)), ((0,), (1,), (2,))),
    ((1, (3, 4, 6)), ((2,), (1,), (0,), (), (1,), (0,))),
    ((2, (1, 2, 3)), ((0, 1), (0, 2))),
    ((2, (2, 2, 3, 3)), ((0, 1), (2, 3))),
    ((3, (1, 2, 2, 2, 2)), ((0, 1, 2), (0, 3, 4))),
    ((3, (2, 2)), ((0, 1),)),
    ((2, (2, 2, GREATEST_GAP, GREATEST_GAP)), ((0, 2), (1, 3))),
    ((1, (2, GREATEST_GAP, GREATEST_GAP - 1)), ((0,), (1,), (0,), (2,))),
)

# Each of these is wrong at the place beside it, and not before.
WRONG_PLANS = tuple(
    [(value, ()) for value in NO_INTEGERS + INTEGERS if value != (1, 2) and value != (None, 1)]
    + [
        ([1, (2, 3)], ()),
        ((1,), ()),
        ((1, (2,), 3), ()),
        ((0, (0,), None), ()),
        ("12", ()),
        ({1: (2,), 0: (3,)}, ()),
        (((1, (2, 3)),), ()),
        ((1, 2), (1,)),
        ((None, 1), (0,)),
    ]
    + [((hands, (2, 3)), (0,)) for hands in NO_INTEGERS + (0, 4, 5, -1, LONG, -LONG)]
    + [((hands, gaps), (0,)) for hands in (0, 4, True, "1") for gaps in ((), [2], None, (0,), (1,) * 9)]
    + [((1, gaps), (1,)) for gaps in INTEGERS]
    + [((1, gaps), (1,)) for gaps in NO_INTEGERS if not isinstance(gaps, tuple)]
    + [((hands, gaps), (1,)) for hands in (1, 2, 3) for gaps in ((), (1,) * 9, (0,) * 9, (1,) * 1000, [2, 3])]
    + [((1, (gap,)), (1, 0)) for gap in NO_INTEGERS + (0, -1, GREATEST_GAP + 1, LONG, -LONG)]
    + [((2, (2, 3, gap)), (1, 2)) for gap in NO_INTEGERS + (0, -1, GREATEST_GAP + 1, LONG, -LONG)]
    + [((3, (1,) * 7 + (gap,)), (1, 7)) for gap in (True, 0, GREATEST_GAP + 1, None)]
    + [((3, (1, 0, True, None)), (1, 1)), ((3, (1, 2, "3", 0)), (1, 2))]
)


def otherwise(value, things):
    """The value with one thing otherwise, at each place of it: another thing there, it left out, or it twice."""
    yield from things
    if isinstance(value, tuple):
        for at, item in enumerate(value):
            for other in otherwise(item, things):
                yield value[:at] + (other,) + value[at + 1:]
            yield value[:at] + value[at + 1:]
            yield value[:at] + (item,) + value[at:]
        yield list(value)
    elif isinstance(value, int):
        yield from (value - 1, value + 1, -value, True, str(value), (value,))


def wrong_standings(plan):
    gaps = plan[1]
    wrong = [value for value in NO_INTEGERS + INTEGERS if not isinstance(value, tuple)]
    wrong += [(), gaps + (1,), gaps[1:], list(gaps), (gaps,), dict(enumerate(gaps)), nested(50), gaps + gaps]
    for number in range(len(gaps)):
        for left in NO_INTEGERS + (0, -1, gaps[number] + 1, LONG, -LONG):
            wrong.append(gaps[:number] + (left,) + gaps[number + 1:])
    return wrong


def raised(test, error, call, *values, **named):
    """The exception of exactly this class that the call raises, which changes nothing that it is passed."""
    before = repr((values, named))
    with test.assertRaises(error, msg=before[:200]) as caught:
        call(*values, **named)
    test.assertIs(type(caught.exception), error)
    test.assertEqual(repr((values, named)), before)
    return caught.exception


def check_result(test, expected, call, **named):
    """The call returns what is expected, however its arguments are passed, twice, and changes none of them."""
    before = repr(named)
    test.assertEqual(repr(call(*named.values())), repr(expected), before[:200])
    for names in itertools.permutations(named):
        told = call(**{name: named[name] for name in names})
        test.assertEqual(repr(told), repr(expected), before[:200])
    for many in range(1, len(named)):
        first = list(named.values())[:many]
        rest = {name: named[name] for name in list(named)[many:]}
        test.assertEqual(repr(call(*first, **rest)), repr(expected), before[:200])
    test.assertEqual(repr(named), before)


def check_refused(test, error, field, wrong, call, **named):
    """The call is refused by position and by name, with this wrong value in its field."""
    for told in (raised(test, error, call, *named.values()), raised(test, error, call, **named)):
        test.assertEqual(vars(told), {field: wrong})
        test.assertEqual(repr(getattr(told, field)), repr(wrong))
