"""Anyprice: planners at all prices, under all budgets, in all surroundings."""
