"""Triesgrow: readers that try, and how their tries grow."""
