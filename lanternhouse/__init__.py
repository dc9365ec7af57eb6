"""Lanternhouse: houses whose doors let hands pass by colour."""
