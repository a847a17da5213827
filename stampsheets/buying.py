"""The fewest stamps to buy."""

from stampsheets.errors import NameTaken
from stampsheets.inners import makes_all
from stampsheets.stocks import check_sizes
from stampsheets.topsets import name_sets


def additions(stock, offers, wishes):
    """Return the first set of offered names with which the stock makes all wishes, or None."""
    check_sizes(stock, offers)
    for name in offers.names:
        if name in stock:
            raise NameTaken(name)
    for names in name_sets(offers):
        if makes_all(stock | offers.only(names), wishes):
            return names
    return None
