"""Forms written as texts of the signs 1 and 0, and read from them."""

from sparsesum.errors import NoText
from sparsesum.forms import need_form


def written(form):
    need_form(form)
    if not form:
        return "0"
    top = form[0]
    signs = ["0"] * (top + 1)
    for place in form:
        signs[top - place] = "1"
    return "".join(signs)


def read(text):
    # The thing is not shown: not everything can be turned into a text.
    if not is_written(text):
        raise NoText("not a form written with the signs 1 and 0")
    top = len(text) - 1
    return [top - index for index, sign in enumerate(text) if sign == "1"]


def is_written(thing):
    if not isinstance(thing, str):
        return False
    if thing == "0":
        return True
    return thing.startswith("1") and "11" not in thing and all([sign in ("0", "1") for sign in thing])
