"""Scanpages: an archive that is printed on paper and read back from scans."""
