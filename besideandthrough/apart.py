"""Programs that change places, that can be left out, and that may be done twice."""

from besideandthrough.errors import WebError
from besideandthrough.forms import form_of
from besideandthrough.grafts import grafted, results
from besideandthrough.values import is_value_text
from besideandthrough.webs import Web, copied


def _pair_text(first, second):
    """Returns the text of the pair of two results, which must be a value."""
    text = f"({first} {second})"
    if not is_value_text(text):
        raise WebError("the pair of two results is too deep")
    return text


def _each_replaced(web, root, make):
    """Returns the node in which each result has become what a function makes of its text."""
    return grafted(web, root, {text: make(text) for text in results(web, root)})


def _returning(web, text):
    """Returns the node that only returns a result."""
    return web.make(("ret", text), ())


def _refuse_deep(firsts, seconds):
    """Refuses results of which one is too deep to be paired, before a node is made."""
    for first in firsts:
        for second in seconds:
            _pair_text(first, second)


def one_then_other(web, one, other):
    """Returns the node of one program and then the other one, whose results are paired."""
    _refuse_deep(results(web, one), results(web, other))
    return _each_replaced(web, one, lambda text: _each_replaced(
        web, other, lambda second: _returning(web, _pair_text(text, second))))


def other_then_one(web, one, other):
    """Returns the node of the other program and then the first one, paired as before."""
    _refuse_deep(results(web, one), results(web, other))
    return _each_replaced(web, other, lambda second: _each_replaced(
        web, one, lambda text: _returning(web, _pair_text(text, second))))


def result_dropped(web, one):
    """Returns the node in which each result has become 0."""
    return _each_replaced(web, one, lambda text: _returning(web, "0"))


def one_result_twice(web, one):
    """Returns the node in which each result is paired with itself."""
    texts = {text: _pair_text(text, text) for text in results(web, one)}
    return _each_replaced(web, one, lambda text: _returning(web, texts[text]))


def _same_form(web, one, other):
    return form_of(web, one) == form_of(web, other)


# The questions below are answered over a web of their own, so that an error leaves the
# given web as it is.


def change_places(web, one, other):
    """Returns True if two programs change places, otherwise False."""
    own = Web(web.book)
    one, other = copied(own, web, one), copied(own, web, other)
    return _same_form(own, one_then_other(own, one, other), other_then_one(own, one, other))


def left_out(web, one):
    """Returns True if a program can be left out, otherwise False."""
    own = Web(web.book)
    one = copied(own, web, one)
    return _same_form(own, result_dropped(own, one), _returning(own, "0"))


def twice(web, one):
    """Returns True if a program may be done twice, otherwise False."""
    own = Web(web.book)
    one = copied(own, web, one)
    return _same_form(own, one_then_other(own, one, one), one_result_twice(own, one))
