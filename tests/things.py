"""Things of all kinds, none of which is a screen or an order, nor, but for the empty list, a list of orders."""

ATOMS = (
    0, 1, -1, 2, 12, 40, 41, 10 ** 30, True, False, None,
    "", " ", "a", "say", "go", "wipe", "a\nb", "\t", "\x1f", "\x7f", "\u00e9", "a" * 41,
)


def nested(thing, deep):
    """The thing within lists and tuples, in turn, so many deep."""
    for level in range(deep):
        thing = [thing] if level % 2 else (thing,)
    return thing


def any_things():
    things = list(ATOMS)
    things += [nested(atom, deep) for atom in ATOMS if atom != "wipe" for deep in range(2, 6)]
    things += [[], (), [""], ["a", ""], ["a", "b", "c", "d"], ((), ()), [[], []], (None,), [None], ([],), [()], ((((("a",),),),),), [[[[["a"]]]]]]
    things += [(one, other) for one in ATOMS for other in (0, True, None, [], (), "\n")]
    things += [(one, two, other) for one in ATOMS for two in (1, True, "a") for other in ([], (0, 0), None, False)]
    things += [[one, other] for one in ATOMS for other in (0, True, None, [], ("say", ""))]
    return things


class Raises:
    """Mixed into a test: asserts the very class of a refusal."""

    def refuses(self, error, function, *given):
        with self.assertRaises(error) as caught:
            function(*given)
        self.assertIs(type(caught.exception), error, (function.__name__, given))


def things_but(fits):
    """All of these things of which it is not told that they fit."""
    return [thing for thing in any_things() if not fits(thing)]


def whole_within(low, high):
    """Tells whether a thing is a whole number from low to high."""
    return lambda thing: isinstance(thing, int) and not isinstance(thing, bool) and low <= thing <= high


def plain(thing):
    """Tells whether a thing is a plain text."""
    return isinstance(thing, str) and all(32 <= ord(sign) <= 126 for sign in thing)


def changed_texts(text, signs):
    """The text with one sign put in, taken out or exchanged, and with a line left out or told twice."""
    changed = []
    for spot in range(len(text) + 1):
        changed += [text[:spot] + sign + text[spot:] for sign in signs]
        if spot < len(text):
            changed.append(text[:spot] + text[spot + 1:])
            changed += [text[:spot] + sign + text[spot + 1:] for sign in signs]
    lines = text.splitlines(keepends=True)
    for number, line in enumerate(lines):
        changed.append("".join(lines[:number] + lines[number + 1:]))
        changed.append("".join(lines[:number] + [line] + lines[number:]))
    return changed


def some_screen(chance, width, many, signs):
    """A screen of this size, its signs and its place by chance."""
    rows = tuple("".join(chance.choice(signs) for column in range(width)) for row in range(many))
    return width, rows, (chance.randint(0, many - 1), chance.randint(0, width))
