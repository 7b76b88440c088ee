"""Desks that keep forms and promises."""
