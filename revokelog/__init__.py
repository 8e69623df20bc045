"""Revokelog: a log with revoked blocks, and a file store over it."""
