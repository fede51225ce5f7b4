"""Webtimes: webs told as products."""
