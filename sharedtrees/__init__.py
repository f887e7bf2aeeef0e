"""Maps from numbers to numbers, kept as versions that share their nodes."""
