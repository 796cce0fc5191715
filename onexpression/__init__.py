"""One expression over numbers and lists: read, written, told about, with outcomes bound to its names."""
