"""Blockkeep: files kept in blocks, whole whenever the disk stops."""
