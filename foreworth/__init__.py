"""Foreworth: one command at a time for many lanes, and what foresight is worth."""
