"""Names, secrets and the seals of secrets."""

from coinlanes.errors import NoSecret


def is_name(thing):
    """Tell whether thing is a name: a text of one to eight small letters."""
    if not isinstance(thing, str) or not 1 <= len(thing) <= 8:
        return False
    return all(["a" <= sign <= "z" for sign in thing])


def is_whole(thing):
    """Tell whether thing is a whole number from 0 on."""
    return isinstance(thing, int) and not isinstance(thing, bool) and thing >= 0


def seal_of(secret):
    """Tell the seal of a secret; NoSecret where it is none."""
    if not is_whole(secret):
        # The text does not show the thing: it may be too long or too deep to be written.
        raise NoSecret("a secret is a whole number from 0 on")
    # The mix has as many binary figures as the secret, so it is less than twice as much, and
    # 37 times that stays within two figures more. From its highest figure on it can be undone
    # (as can the rest), so unlike secrets have unlike seals; it keeps the seals from standing
    # in the order of their secrets.
    mixed = secret ^ (secret >> 1)
    return 37 * mixed + 11
