"""The makers of the members of a web [12.4], found from the greatest member downward.

Forms are looked at on a plane in the space of the unknowns, on which the root forms of unlike mirrors are no multiples
of one another either. The numbers of makers stay as they are there: sections over the members above one are the sums
of forms times independent sections, and the degrees of these add up to the number of makers at the upper ends of all
ties, on the plane, too. A form of degree d on the plane is a polynomial of at most this degree in one unknown, and it
is a multiple of a root form exactly if it is 0 at the number of the mirror.

A value at a member is a dict from labels (maker, power) to numbers: the form of the maker has the number at this power.
Numbers are fractions (underwords.sheaf.quotients).
"""

from underwords.sheaf.quotients import NONE, ONE, by, inverted, opposite, plus
from underwords.sheaf.spans import Span


class Web:
    """The ties up from each member, and the makers, their leads and the sections over the members that are done.

    A section is a dict from members to values, without those at which it is 0. Sections stand by their degrees, and
    sums of forms times other ones are left out.
    """

    def __init__(self, ties, most):
        numbers = mirror_numbers({root: True for row in ties for _, root in row})
        self.ups = [[] for _ in ties]
        for high, row in enumerate(ties):
            for low, root in row:
                self.ups[low].append((high, numbers[root]))
        self.degrees = [[] for _ in ties]
        self.lead_rows = [[] for _ in ties]
        self.sections = [[] for _ in range(most + 1)]

    def start(self):
        """Give the greatest member its maker, and keep the section that has it alone."""
        greatest = len(self.ups) - 1
        label = self.new_maker(greatest, 0, [])
        self.sections[0].append({greatest: {label: ONE}})

    def go_on(self, at):
        """Find the makers of a member, once all members above it are done, and lead the sections on to it."""
        dependent = []
        for degree in range(len(self.sections)):
            span = Span()
            relations = self.span_of_leads(span, at, degree, dependent)
            for section in list(self.sections[degree]):
                section[at] = self.led_on(span, at, degree, section)
            # What counts as 0 along all ties up is at this member alone.
            self.sections[degree].extend([{at: value} for _, value in relations])
            dependent = dependent + [label for label, _ in relations]
            # A form times what depends on others depends on others, too.
            dependent = dependent + [(maker, power + 1) for maker, power in dependent]

    def span_of_leads(self, span, at, degree, dependent):
        """Span what the makers lead to; pairs of a label that depends on those ahead and a value that leads to 0."""
        relations = []
        for maker, own in enumerate(self.degrees[at]):
            for power in range(degree - own + 1):
                label = (maker, power)
                if label not in dependent:
                    left, shares = span.taken_off(self.lead_row(at, label))
                    if is_none(left):
                        value = {other: opposite(shares[other]) for other in shares}
                        value[label] = ONE
                        relations.append((label, value))
                    else:
                        span.keep(label, left, shares)
        return relations

    def led_on(self, span, at, degree, section):
        """The value at a member that leads to a section above it, with a new maker where those there lead to none."""
        row = self.row_above(at, section)
        left, shares = span.taken_off(row)
        if is_none(left):
            return shares
        label = self.new_maker(at, degree, row)
        span.keep(label, left, shares)
        return {label: ONE}

    def new_maker(self, at, degree, row):
        """Give a member a maker with its leads along all ties up, and tell the label for the maker alone."""
        self.degrees[at].append(degree)
        self.lead_rows[at].append(row)
        return (len(self.degrees[at]) - 1, 0)

    def lead_row(self, at, label):
        """What a label leads to along all ties up, as it counts there."""
        maker, power = label
        factors = [raised(number, power) for high, number in self.ups[at] for _ in self.degrees[high]]
        return [by(factor, number) for factor, number in zip(factors, self.lead_rows[at][maker])]

    def row_above(self, at, section):
        """The values of a section at the upper ends of all ties up, as they count there: a number for each maker."""
        row = []
        for high, number in self.ups[at]:
            told = [NONE for _ in self.degrees[high]]
            value = section.get(high, {})
            for maker, power in value:
                told[maker] = plus(told[maker], by(value[(maker, power)], raised(number, power)))
            row.extend(told)
        return row


def maker_degrees(ties, most):
    """For each member the list of the degrees of its makers, those above a greatest degree left out."""
    web = Web(ties, most)
    web.start()
    for at in range(len(ties) - 2, -1, -1):
        web.go_on(at)
    return web.degrees


def mirror_numbers(roots):
    """The dict from the roots to unlike numbers, at which their root forms on a plane are 0."""
    base = 1
    numbers = {root: plane_number(root, base) for root in roots}
    # Unlike roots have equal numbers for at most three bases.
    while len({numbers[root]: True for root in numbers}) < len(numbers):
        base += 1
        numbers = {root: plane_number(root, base) for root in roots}
    return numbers


def plane_number(root, base):
    """The number of a root: the sum of its entries, divided by the sum of the entries times powers of the base."""
    first = second = NONE
    factor = 1
    for whole, part in root:
        first = plus(first, (whole, part, 1))
        second = plus(second, (factor * whole, factor * part, 1))
        factor *= base
    return by(first, inverted(second))


def raised(number, power):
    """The power of a number."""
    made = ONE
    for _ in range(power):
        made = by(made, number)
    return made


def is_none(row):
    """Whether all numbers of a row are 0."""
    return all([number == NONE for number in row])
