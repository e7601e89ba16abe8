"""Railhouse: track, interlocking, plans and clock of a railway."""
