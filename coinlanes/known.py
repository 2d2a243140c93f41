"""What a keeper knows of secrets, and what it makes of locks by that."""

from coinlanes.seals import seal_of


class Known:
    """Keep the secrets and the bills of a hand; what was shown at the court it knows as well."""

    def __init__(self, court):
        self._court = court
        # Secrets and billed amounts, each by seals.
        self._secrets = {}
        self._bills = {}

    def learn(self, secret):
        """Learn a secret."""
        self._secrets[seal_of(secret)] = secret

    def note_bill(self, secret, amount):
        """Learn a secret for which the hand wants at least this amount."""
        self.learn(secret)
        self._bills[seal_of(secret)] = amount

    def secret_for(self, seal):
        """Tell the secret of a seal, or None where it isn't known. NoNumber."""
        shown = self._court.secret(seal)
        return self._secrets.get(seal) if shown is None else shown

    def is_dead(self, lock):
        """Tell whether the last turn of a lock has passed without its secret."""
        seal, last = lock[3:]
        shown = self._court.shown(seal)
        return last < self._court.now() and (shown is None or shown > last)

    def is_claimed(self, lock):
        """Tell whether the hand claims a lock that the other side gave."""
        amount, seal = lock[2:4]
        if self.is_dead(lock) or self.secret_for(seal) is None:
            return False
        # What was shown can't be held back for a better offer any more.
        return amount >= self._bills.get(seal, 0) or self._court.shown(seal) is not None
