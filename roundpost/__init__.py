"""Roads that are walked once a day in one order, and how news goes by them."""
