"""Webs written and read."""

from webtimes.errors import NoText
from webtimes.rows import MOST_WEBS, look_at_webs
from webtimes.webs import look_at_web, web_fault

FIGURES = "0123456789"
# No web has a number of more figures.
MOST_FIGURES = 2
BETWEEN = " * "
NO_WEBS = "none"


def number_in(text, most):
    """Tell the number that the text writes by at most so many figures, or None."""
    if not 1 <= len(text) <= most or not all([sign in FIGURES for sign in text]):
        return None
    if len(text) > 1 and text[0] == "0":
        return None
    return int(text)


def written_web(web):
    """Tell the text of a web that is looked at already."""
    many, ties = web
    return " ".join([str(many)] + [f"{one}-{other}" for one, other in ties])


def written_webs(webs):
    """Tell the text of webs that are looked at already, perhaps of more than twelve."""
    if not webs:
        return NO_WEBS
    return BETWEEN.join([written_web(web) for web in webs])


def tie_in(text):
    """Tell the two numbers that the text writes with `-` between, None in the stead of what is none."""
    one, _, other = text.partition("-")
    return (number_in(one, MOST_FIGURES), number_in(other, MOST_FIGURES))


def web_in(text):
    """Tell the web that the text writes, or None."""
    words = text.split(" ")
    web = (number_in(words[0], MOST_FIGURES), [tie_in(word) for word in words[1:]])
    return web if web_fault(web) is None else None


def show_web(web):
    """Tell the text of the web."""
    look_at_web(web)
    return written_web(web)


def show_webs(webs):
    """Tell the text of the webs."""
    look_at_webs(webs)
    return written_webs(webs)


def read_web(text):
    """Tell the web that the text writes, or NoText."""
    web = web_in(text) if isinstance(text, str) else None
    if web is None:
        raise NoText(0)
    return web


def read_webs(text):
    """Tell the webs that the text writes, or NoText."""
    if not isinstance(text, str):
        raise NoText(0)
    webs = []
    if text != NO_WEBS:
        for part, own_text in enumerate(text.split(BETWEEN)):
            web = web_in(own_text)
            if part == MOST_WEBS or web is None:
                raise NoText(part)
            webs.append(web)
    return webs
