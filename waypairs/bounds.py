"""What webs must be to be compared."""

from waypairs.errors import BadWeb, TooLarge

WEB_THINGS = 130


def check_sizes(webs):
    """Raises for the first web that has too many things to be compared."""
    for web in webs:
        if len(web) > WEB_THINGS:
            raise TooLarge(len(web))


def check_webs(webs, manners):
    """Raises for webs that are too large, or that lack the root old though the manners contain it."""
    check_sizes(webs)
    if "old" in manners and any([web.old is None for web in webs]):
        raise BadWeb(-1)
