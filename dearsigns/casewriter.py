"""Cases and fractions written as texts."""

from dearsigns.tongues import look_at_tongue
from dearsigns.wants import look_at_wants


def show_fraction(one):
    """The text that writes a fraction."""
    top, bottom = one
    return str(top) if bottom == 1 else f"{top}/{bottom}"


def write_case(case):
    """The text that writes a case: a tuple of a tongue, wants, and a book or None."""
    tongue, wants, book = case
    look_at_tongue(tongue)
    look_at_wants(wants)
    things = [f"thing {name} {count}" for name, count in wants]
    words = [] if book is None else [f"word {word}" for word in book]
    return "\n".join([*tongue_rows(tongue), *things, *words])


def tongue_rows(tongue):
    """The rows that write a tongue."""
    signs, firsts, pairs, longest = tongue
    return [*[sign_row(row) for row in signs], *[f"first {sign}" for sign in firsts],
            *[f"pair {pair}" for pair in pairs], f"longest {longest}"]


def sign_row(row):
    """The row that writes a sign with its price and last."""
    sign, price, last = row
    shown = "-" if last is None else show_fraction(last)
    return f"sign {sign} {show_fraction(price)} {shown}"
