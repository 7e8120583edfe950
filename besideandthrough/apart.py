"""Programs that change places, that can be left out, and that may be done twice."""

from besideandthrough.forms import form_of
from besideandthrough.grafts import grafted, results


def _pair(web, first, second):
    """Returns the node of the result that pairs two results."""
    return web.make(("ret", f"({first} {second})"), ())


def _each_replaced(web, root, make):
    """Returns the node in which each result has become what a function makes of its text."""
    return grafted(web, root, {text: make(text) for text in results(web, root)})


def one_then_other(web, one, other):
    """Returns the node of one program and then the other one, whose results are paired."""
    return _each_replaced(web, one, lambda text: _each_replaced(
        web, other, lambda second: _pair(web, text, second)))


def other_then_one(web, one, other):
    """Returns the node of the other program and then the first one, paired as before."""
    return _each_replaced(web, other, lambda second: _each_replaced(
        web, one, lambda text: _pair(web, text, second)))


def _nothing(web):
    """Returns the node that only returns 0."""
    return web.make(("ret", "0"), ())


def result_dropped(web, one):
    """Returns the node in which each result has become 0."""
    nothing = _nothing(web)
    return _each_replaced(web, one, lambda text: nothing)


def one_result_twice(web, one):
    """Returns the node in which each result is paired with itself."""
    return _each_replaced(web, one, lambda text: _pair(web, text, text))


def _same_form(web, one, other):
    return form_of(web, one) == form_of(web, other)


def change_places(web, one, other):
    """Returns True if two programs change places, otherwise False."""
    return _same_form(web, one_then_other(web, one, other), other_then_one(web, one, other))


def left_out(web, one):
    """Returns True if a program can be left out, otherwise False."""
    return _same_form(web, result_dropped(web, one), _nothing(web))


def twice(web, one):
    """Returns True if a program may be done twice, otherwise False."""
    return _same_form(web, one_then_other(web, one, one), one_result_twice(web, one))
