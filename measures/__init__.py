"""Equations between measures, and all their solutions told in one form."""
