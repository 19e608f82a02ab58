"""Tillpress: tills of coins, and days of change."""
