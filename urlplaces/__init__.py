"""URLs parsed, joined and normalized."""
