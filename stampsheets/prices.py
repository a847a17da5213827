"""Prices of stamps."""

from stampsheets.errors import BadPrices


def prices_by_name(stock, prices):
    """Return the price of each name, or raise an error if there are not as many prices as stamps."""
    if len(prices) != len(stock):
        raise BadPrices()
    return dict(zip(stock.names, prices))
