"""Nets of lanes, the fees of hands, and the cheapest ways through a net."""

from heapq import heappop, heappush

from coinlanes.errors import NoCoins, NoFees, NoName, NoNet, NoPaper, NoWay
from coinlanes.seals import is_name, is_whole
from coinlanes.states import is_positive

MOST_LANES = 60
THOUSAND = 1000


def is_net_row(thing):
    """Tell whether thing is a tuple (lane, left, right, left room, right room)."""
    if not isinstance(thing, tuple) or len(thing) != 5:
        return False
    lane, left, right, left_room, right_room = thing
    if not is_name(left) or not is_name(right) or left == right:
        return False
    return is_whole(lane) and is_whole(left_room) and is_whole(right_room)


def is_net(thing):
    """Tell whether thing is a net: a list of at most sixty lanes with the rooms of their sides."""
    if not isinstance(thing, list) or len(thing) > MOST_LANES:
        return False
    if not all([is_net_row(row) for row in thing]):
        return False
    return len({row[0]: True for row in thing}) == len(thing)


def is_fee(thing):
    """Tell whether thing is a fee: a tuple (flat, share)."""
    if not isinstance(thing, tuple) or len(thing) != 2:
        return False
    flat, share = thing
    return is_whole(flat) and is_whole(share) and share <= THOUSAND


def are_fees(thing):
    """Tell whether thing is a dict from names to fees."""
    if not isinstance(thing, dict):
        return False
    return all([is_name(hand) and is_fee(fee) for hand, fee in thing.items()])


def check_fee(thing):
    """Refuse what is no fee with NoFees."""
    if not is_fee(thing):
        raise NoFees("a fee is a tuple (flat, share), the share at most 1000")


def fee_for(fee, amount):
    """Tell what a hand with this fee takes of an amount that it hands on. NoFees, NoCoins."""
    check_fee(fee)
    if not is_whole(amount):
        raise NoCoins("an amount is a whole number from 0 on")
    flat, share = fee
    return flat + amount * share // THOUSAND


def cheapest(net, payer, payee, amount, *, fees=None):
    """Tell the cheapest way, as tuples (lane, hand, amount). NoNet, NoName, NoCoins, NoFees, NoWay."""
    check_net(net)
    if not is_name(payer) or not is_name(payee) or payer == payee:
        raise NoName("the payer and the payee are unlike names")
    check_order(amount, fees)
    return find_way(net, payer, payee, amount, fees_or_none(fees))


def way_paper(net, payee, amount, *, fees=None):
    """Tell for each hand that can be on a way the least amount that must come to it. NoNet, NoName, NoCoins, NoFees."""
    check_net(net)
    if not is_name(payee) or not any([payee in row[1:3] for row in net]):
        raise NoName("the payee is a name that stands in a lane")
    check_order(amount, fees)
    found = least_ways(net, payee, amount, fees_or_none(fees))
    return {hand: due for hand, (due, _) in found.items()}


def shows(net, payee, amount, paper, *, fees=None):
    """Tell whether a paper is that of 22. NoNet, NoName, NoCoins, NoFees, NoPaper."""
    right = way_paper(net, payee, amount, fees=fees)
    if not is_way_paper(paper):
        raise NoPaper("a paper is a dict from names to whole numbers")
    return paper == right


def is_way_paper(thing):
    """Tell whether thing is a dict from names to whole numbers, also to such as are below 0."""
    if not isinstance(thing, dict):
        return False
    return all([is_name(hand) and isinstance(due, int) and not isinstance(due, bool) for hand, due in thing.items()])


def check_net(net):
    """Refuse what is no net with NoNet."""
    if not is_net(net):
        raise NoNet("a net is a list of at most sixty tuples (lane, left, right, left room, right room)")


def check_order(amount, fees):
    """Refuse what is no amount with NoCoins, then what are no fees with NoFees."""
    if not is_positive(amount):
        raise NoCoins("an amount is a whole number from 1 on")
    if fees is not None and not are_fees(fees):
        raise NoFees("fees are a dict from names to tuples (flat, share)")


def fees_or_none(fees):
    """Tell the fees; where they were left out nobody takes any."""
    return {} if fees is None else fees


def find_way(net, payer, payee, amount, fees):
    """Tell the cheapest way, as cheapest does, in a net and with fees that are in order, of whatever size. NoWay."""
    # The payer takes no fee; counted in here it makes each of the payer's ways dearer, and none of them the cheapest.
    found = least_ways(net, payee, amount, fees)
    if payer not in found:
        raise NoWay("no way leads from the payer to the payee")
    return way_along(net, payee, amount, fees, found[payer][1])


def least_ways(net, payee, amount, fees):
    """Tell for each hand that can pay (amount, lanes): what must come to it at least, and its lanes to the payee.

    The lanes are read from the payee's end. Of all that could come next, the least amount is
    looked at first, of such the fewest lanes, of such the least list: so the first one that is
    found for a hand is its cheapest. A lesser amount is never a hindrance further on: it needs
    less room, and the fee for it is no greater.
    """
    found = {}
    queue = [(amount, 0, (), payee)]
    while queue:
        due, many, lanes, hand = heappop(queue)
        if hand in found:
            continue
        found[hand] = (due, lanes)
        for lane, giver, room in lanes_to(net, hand):
            if giver not in found and room >= due:
                heappush(queue, (due + fee_of(fees, giver, due), many + 1, (*lanes, lane), giver))
    return found


def lanes_to(net, hand):
    """Tell the lanes on which others can give to a hand, as tuples (lane, giver, the giver's room)."""
    rows = [(lane, left, left_room) for lane, left, right, left_room, _ in net if right == hand]
    return rows + [(lane, right, right_room) for lane, left, right, _, right_room in net if left == hand]


def fee_of(fees, hand, amount):
    """Tell what a hand takes of an amount; a hand that is not there takes nothing."""
    return fee_for(fees.get(hand, (0, 0)), amount)


def way_along(net, payee, amount, fees, lanes):
    """Tell the way over these lanes, which are read from the payee's end."""
    way = []
    hand, due = payee, amount
    for lane in lanes:
        hand = [giver for number, giver, _ in lanes_to(net, hand) if number == lane][0]
        way.append((lane, hand, due))
        due += fee_of(fees, hand, due)
    return way[::-1]
