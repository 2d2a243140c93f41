"""What stands where an argument is left out."""

# How many turns a closing lane waits for a later state.
WAIT = 6

# How many turns the looks of a keeper may be apart.
GAP = 2

# What a hand takes of an amount that it hands on: so many coins flat, and so many thousandths.
FEE = (1, 10)

# How many turns ahead the last turn of a payment's last lane is.
BOUND = 20
