"""One expression over numbers and lists: read, written, worked out, folded, and others put into it."""
