"""Hoststack: a small operating system, from blocks that survive a crash to a shell."""
