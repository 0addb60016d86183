"""Choosing: which further marks settle what is asked, at the least price."""

from seenabout.charts import Chart, pair_number
from seenabout.errors import BadAsks, BadChart, BadOffers
from seenabout.lands import check_land
from seenabout.looks import is_ask, two_places, views
from seenabout.ratios import is_integer
from seenabout.sights import chosen_marks

_MOST_OFFERS = 4
_MOST_ASKS = 3
_MOST_PRICE = 9


def _is_offer(value):
    """Whether any value is a line without line feeds, at a price."""
    return (isinstance(value, tuple) and len(value) == 2 and isinstance(value[0], str) and "\n" not in value[0]
            and is_integer(value[1]) and 1 <= value[1] <= _MOST_PRICE)


def _check_offers(value):
    """Refuse any value that is no offers."""
    if not isinstance(value, tuple) or not 1 <= len(value) <= _MOST_OFFERS:
        raise BadOffers(value)
    if not all([_is_offer(offer) for offer in value]):
        raise BadOffers(value)
    if not all([one < other for one, other in zip(value, value[1:])]):
        raise BadOffers(value)


def _check_asks(chart, value):
    """Refuse any value that is no asks of the chart."""
    if not isinstance(value, tuple) or not 1 <= len(value) <= _MOST_ASKS:
        raise BadAsks(value)
    if not all([is_ask(chart, ask) for ask in value]):
        raise BadAsks(value)


def _price(choice):
    return sum([price for _, price in choice])


def _choices(offers):
    """All choices, by price, then by how many offers they have, then as tuples."""
    by_text = {}
    for bits in range(1 << len(offers)):
        numbers = [number for number in range(len(offers)) if (bits >> number) & 1 == 1]
        choice = tuple([offers[number] for number in numbers])
        # Offers ascend: so choices of as many stand as the numbers of their offers do.
        figures = "".join([str(number) for number in numbers])
        by_text[f"{_price(choice):02d} {len(choice)} {figures}"] = choice
    return [by_text[text] for text in sorted(list(by_text), key=str)]


def _chart_with(chart, choice):
    """The chart with the lines of a choice behind it, or None if this is none."""
    try:
        return Chart("\n".join([chart.text] + [line for line, _ in choice]))
    except BadChart:
        return None


def _first_open(chart, asks, land):
    """The number of the first ask that the rounds of all marks do not settle, with two places; or None."""
    some = views(chart, land, chosen_marks(chart, None))
    for number, (one, other) in enumerate(asks):
        places = two_places(some, pair_number(chart, one, other))
        if places is not None:
            return number, *places
    return None


def cheapest(chart, offers, asks, *, land=None):
    """The first choice whose marks settle all asks, with two places for each choice ahead of it that counts."""
    _check_offers(offers)
    _check_asks(chart, asks)
    check_land(land)
    reasons = []
    for choice in _choices(offers):
        wider = _chart_with(chart, choice)
        if wider is not None:
            found = _first_open(wider, asks, land)
            if found is None:
                return "choice", _price(choice), choice, tuple(reasons)
            reasons.append((choice, *found))
    return "none", tuple(reasons)
