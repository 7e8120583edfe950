"""Lines, tokens, numbers and names."""

from besideandthrough.errors import TextError


def tokens_of(line, number):
    """Returns the list of the tokens of the line with this number."""
    found = []
    place = 0
    while place < len(line):
        begin = _token_begin(line, place, found)
        if begin < 0:
            raise TextError(number, len(found) + 1)
        place = _token_end(line, begin)
        found.append(line[begin:place])
    return found


def _token_begin(line, place, found):
    """Returns where the token behind the found ones begins, or -1 if none can begin."""
    mark = line[place]
    if not found or found[-1] == "(":
        return -1 if mark == " " else place
    if mark == ")":
        return place
    if mark == " " and place + 1 < len(line) and line[place + 1] not in " )":
        return place + 1
    return -1


def _token_end(line, begin):
    """Returns the place behind the token that begins at a place."""
    end = begin + 1
    if line[begin] in "()":
        return end
    while end < len(line) and line[end] not in " ()":
        end += 1
    return end


def is_digits(token):
    """Returns True if a token consists of digits only, otherwise False."""
    return token.isascii() and token.isdigit()


def whole_in(token, most):
    """Returns the number that a token of at most this many digits writes, or -1."""
    if not is_digits(token) or len(token) > most:
        return -1
    if token[0] == "0" and token != "0":
        return -1
    return int(token)


def number_in(token):
    """Returns the number that a token writes, or -1 if it writes none."""
    return whole_in(token, 3)


def is_name(token):
    """Returns True if a token is a name, otherwise False."""
    return len(token) <= 6 and token.isascii() and token.isalpha() and token.islower()
