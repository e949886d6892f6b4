"""Onename: one name only across parted houses."""
