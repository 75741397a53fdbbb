"""The text of a polynomial, and the terms that a text tells."""

LONGEST_INTEGER = 60
DIGITS = "0123456789"


def poly_text(coefficients, lowest):
    """The text of the poly with these integers from the lowest exponent on."""
    terms = [term_text(number, lowest + at) for at, number in enumerate(coefficients) if number]
    if not terms:
        return "0"
    text = "".join(terms)
    return f"-{text[3:]}" if text.startswith(" -") else text[3:]


def term_text(number, exponent):
    """The text of a term, with its sign and blanks ahead of it."""
    size = abs(number)
    sign = "-" if number < 0 else "+"
    if exponent == 0:
        return f" {sign} {size}"
    base = "q" if exponent == 1 else f"q^{exponent}"
    return f" {sign} {base}" if size == 1 else f" {sign} {size} {base}"


def read_terms(text):
    """The dict from the exponents of a text to the integers; None if a part of it is no term."""
    signed = f"- {text[1:]}" if text.startswith("-") else f"+ {text}"
    groups = []
    for part in signed.split(" "):
        if part in ("+", "-"):
            groups.append([part])
        else:
            groups[-1].append(part)
    terms = {}
    for sign, *parts in groups:
        term = read_term(parts)
        if term is None:
            return None
        number, exponent = term
        terms[exponent] = -number if sign == "-" else number
    return terms


def read_term(parts):
    """The pair of the integer and the exponent that the parts of a term tell, None if they tell none."""
    if len(parts) == 1 and not parts[0].startswith("q"):
        parts = [*parts, "q^0"]
    elif len(parts) == 1:
        parts = ["1", *parts]
    if len(parts) != 2 or not is_digits(parts[0]):
        return None
    exponent = read_exponent(parts[1])
    return None if exponent is None else (int(parts[0]), exponent)


def read_exponent(base):
    """The exponent of a power of q, None if the text is none."""
    if base == "q":
        return 1
    if not base.startswith("q^"):
        return None
    digits = base[2:]
    if digits.startswith("-"):
        return -int(digits[1:]) if is_digits(digits[1:]) else None
    return int(digits) if is_digits(digits) else None


def is_digits(text):
    """Whether the text is an integer of at least 0, of at most sixty digits."""
    return 0 < len(text) <= LONGEST_INTEGER and all([sign in DIGITS for sign in text])
