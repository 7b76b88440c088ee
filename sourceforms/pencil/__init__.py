"""Pencils of forms."""
