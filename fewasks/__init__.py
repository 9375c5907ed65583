"""Fewasks: which versions the other house has, found by few asks, and the least pack of what lacks."""
