"""Loose images [16.7]: sums of diagrams, dicts from diagrams to polynomials in terms, multiplied by letters."""

from underwords.base.terms import added, multiplied, scaled
from underwords.groups.systems import System
from underwords.loose.curves import first_diagram, joined_curves, tied
from underwords.loose.loose import loose_members


def diagram_along(places, word):
    """The product of the diagrams along the letters of a word, and the number of the loops."""
    made, many = first_diagram(places), 0
    for letter in word:
        made, loops = joined_curves(places, made, tied(places, letter))
        many += loops
    return made, many


def words_of_diagrams(places):
    """The dict from all diagrams to the normal words of their loose members."""
    return {diagram_along(places, word)[0]: word for word in loose_members(System.rows(places))}


def pair_product(places, words, upper, lower):
    """The diagram z and the terms of the product E(u) E(w) = q ** ((l(u) + l(w) - l(z) - k) / 2) (q + 1) ** k E(z)."""
    made, loops = joined_curves(places, upper, lower)
    terms = (1,)
    for _ in range(loops):
        terms = added(terms, scaled(terms, 1, 1))
    return made, scaled(terms, 1, (len(words[upper]) + len(words[lower]) - len(words[made]) - loops) // 2)


def images_along(places, words, chosen):
    """The dict from normal words and their ends to the images of T of their members."""
    steps = [
        {lower: pair_product(places, words, tied(places, letter), lower) for lower in words}
        for letter in range(places - 1)
    ]
    images = {(): {first_diagram(places): (1,)}}
    for word in chosen:
        for at in range(len(word) - 1, -1, -1):
            if word[at:] not in images:
                images[word[at:]] = letter_image(steps[word[at]], images[word[at + 1:]])
    return images


def letter_image(step, image):
    """The product of the image of T of a letter, E((s,)) - E(()), and an image."""
    made = {lower: scaled(image[lower], -1, 0) for lower in image}
    for lower in image:
        low, terms = step[lower]
        made[low] = added(made.get(low, ()), multiplied(terms, image[lower]))
    return {low: made[low] for low in made if any(made[low])}
