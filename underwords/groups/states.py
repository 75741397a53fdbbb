"""Members told by their states, rows of numbers that can be compared and led on quickly.

The state of the first member has the number 1 at each letter. Put ahead of a member, the letter i
turns the sign of the number at i, and adds c(j, i) times what stood there to the number at each
other letter j. These are the numbers that the mirrors of the letters give to the image of a point
that lies on no mirror, so unlike members have unlike states, and a letter is a left letter exactly
if its number is below 0. Numbers are pairs of a whole and a part.
"""

from underwords.groups.factors import is_below, triples_from


def links_of(system):
    """For each letter i the triples (j, a, b) of the letters j with c(j, i) = a + b s."""
    return tuple([triples_from(system, letter) for letter in range(system.letters)])


def first_state(links):
    """The state of the first member."""
    return tuple([(1, 0) for _ in links])


def put_ahead(links, state, letter):
    """The state of the product of a letter and a member."""
    whole, part = state[letter]
    numbers = list(state)
    numbers[letter] = (-whole, -part)
    for other, more, golden in links[letter]:
        a, b = numbers[other]
        numbers[other] = (a + more * whole + golden * part, b + more * part + golden * (whole + part))
    return tuple(numbers)


def word_ahead(links, state, word):
    """The state of the product of a word and a member."""
    for letter in word[::-1]:
        state = put_ahead(links, state, letter)
    return state


def state_of(links, word):
    """The state of the member of a word."""
    return word_ahead(links, first_state(links), word)


def left_of(state):
    """The ascending list of the left letters of a member."""
    return [letter for letter, number in enumerate(state) if is_below(number)]


def normal_of(links, state):
    """The normal word of a member: the least left letter stands ahead of the normal word of the rest."""
    word = []
    lefts = left_of(state)
    while lefts:
        word.append(lefts[0])
        state = put_ahead(links, state, lefts[0])
        lefts = left_of(state)
    return tuple(word)


def normal_word(links, word):
    """The normal word of the member of a word, of any length."""
    return normal_of(links, state_of(links, word))


def by_length(words):
    """The tuple of the words, by length, those of one length ascending."""
    sized = sorted([(len(word), word) for word in words])
    return tuple([word for _, word in sized])


def next_level(links, level):
    """The members that are longer by 1, from the dict of the states of one length to the normal words."""
    return next_level_by(links, level, list(range(len(links))))


def next_level_by(links, level, letters):
    """The members by some letters alone that are longer by 1, from those of one length."""
    found = {}
    for state in level:
        for letter in letters:
            if not is_below(state[letter]):
                longer = put_ahead(links, state, letter)
                if longer not in found:
                    # The left letters of a member by some letters are among these.
                    least = left_of(longer)[0]
                    rest = level[put_ahead(links, longer, least)]
                    found[longer] = (least, *rest)
    return found


def words_by(links, letters, most):
    """The normal words of the members by some letters, by length, then ascending; None if more than most."""
    level = {first_state(links): ()}
    found = []
    while level:
        found.extend(sorted(level.values()))
        if len(found) > most:
            return None
        level = next_level_by(links, level, letters)
    return found
