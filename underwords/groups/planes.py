"""Lots of roots: those of the inversions of a member, and the planes in which others break its rule [3.4].

Roots are above 0 here. Three roots a, b, c are told in this sequence, with c between a and b.
"""

from underwords.base.golds import sense_of, times
from underwords.groups.roots import led, led_along, letter_root, made_above, word_of_root

MOST_LETTERS = 40


def sense(number):
    """1, 0 or -1: whether the number of a pair is above, at or below 0."""
    return sense_of(number[0], number[1])


def area(one, other, first, second):
    """The pair of the number one[first] other[second] - one[second] other[first]."""
    whole, part = times(one[first], other[second])
    less_whole, less_part = times(one[second], other[first])
    return (whole - less_whole, part - less_part)


def apart_spots(one, other):
    """Two places at which unlike roots are no multiples of each other, None if there are none."""
    for second in range(len(one)):
        for first in range(second):
            if area(one, other, first, second) != (0, 0):
                return (first, second)
    return None


def is_sum(one, other, root, many):
    """Whether the root is many[0] one + many[1] other, both divided by many[2]."""
    for at in range(len(root)):
        first = times(many[0], one[at])
        second = times(many[1], other[at])
        if times(many[2], root[at]) != (first[0] + second[0], first[1] + second[1]):
            return False
    return True


def shares(one, other, root):
    """The senses of x and y for the root x one + y other, None if it lies in no plane with both."""
    spots = apart_spots(one, other)
    if spots is None:
        return None
    whole = area(one, other, *spots)
    first = area(root, other, *spots)
    second = area(one, root, *spots)
    if not is_sum(one, other, root, (first, second, whole)):
        return None
    return (sense(whole) * sense(first), sense(whole) * sense(second))


def is_between(one, other, root):
    """Whether the root is x one + y other for numbers x and y above 0."""
    return shares(one, other, root) == (1, 1)


def taken_off(rows, roots):
    """The letters that can be taken off a lot of roots, least ones first, and the led roots that are left."""
    word = []
    left = list(roots)
    letters = [letter for letter in range(len(rows)) if letter_root(rows, letter) in left]
    while letters:
        own = letter_root(rows, letters[0])
        left = [led(rows, root, letters[0]) for root in left if root != own]
        word.append(letters[0])
        letters = [letter for letter in range(len(rows)) if letter_root(rows, letter) in left]
    return tuple(word), left


def broken_three(rows, word, left):
    """Three roots that break the rule for a lot from which a word was taken off, with roots left."""
    lowest = min([(len(word_of_root(rows, root)), root) for root in left])[1]
    letter = word_of_root(rows, lowest)[0]
    # The root of the letter is not left, nor is the lesser root: the lowest one stands between both.
    three = (letter_root(rows, letter), led(rows, lowest, letter), lowest)
    a, b, c = [led_above(rows, root, word) for root in three]
    # The word leads at most one of the first two below 0; its opposite is in the lot then.
    if is_between(a, b, c):
        return (a, b, c)
    return (a, c, b) if is_between(a, c, b) else (b, c, a)


def led_above(rows, root, word):
    """The root above 0 of the mirror x t x', x being the member of the word and t the mirror of the root."""
    return made_above(led_along(rows, root, word))


def short_plane(rows, start):
    """The roots with words of at most 40 letters that the mirrors of roots of one plane lead to one another."""
    words = {root: word_of_root(rows, root) for root in start}
    longest = max([len(words[root]) for root in words] + [MOST_LETTERS])
    plane = list(words)
    at = 0
    while at < len(plane):
        now = plane[at]
        earlier = plane[:at]
        made = [led_above(rows, now, words[root]) for root in earlier]
        made.extend([led_above(rows, root, words[now]) for root in earlier])
        for root in made:
            if root not in words:
                word = word_of_root(rows, root)
                if len(word) <= longest:
                    words[root] = word
                    plane.append(root)
        at += 1
    return [root for root in plane if len(words[root]) <= MOST_LETTERS]


def in_sequence(one, other, plane):
    """The roots of a plane, turning from one side of it to the other."""
    first, second = apart_spots(one, other)
    ahead = [(len([root for root in plane if sense(area(root, now, first, second)) > 0]), now) for now in plane]
    return [now for _, now in sorted(ahead)]


def short_three(rows, roots, three):
    """Three roots of mirrors of at most 40 letters that break the rule in the plane of told ones, or None."""
    if all([len(word_of_root(rows, root)) <= MOST_LETTERS for root in three]):
        return three
    one, other, _ = three
    start = list(three) + [root for root in roots if shares(one, other, root) is not None]
    row = in_sequence(one, other, short_plane(rows, start))
    inside = [root in roots for root in row]
    for at in range(len(row)):
        ahead = [root for root, told in zip(row[:at], inside[:at]) if told != inside[at]]
        behind = [root for root, told in zip(row[at + 1:], inside[at + 1:]) if told != inside[at]]
        if ahead and behind:
            return (ahead[0], behind[-1], row[at])
    return None
