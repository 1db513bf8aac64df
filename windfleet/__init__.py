"""Windfleet: small flyers under winds that are told only as boxes."""
