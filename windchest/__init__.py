"""Windchest: a pipe organ, its couplers, its board of relays and its paper rolls."""
