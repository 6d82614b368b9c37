"""Namehouse: names of labels, their zones, keepers, copies, askers and seals."""
