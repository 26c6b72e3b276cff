"""Overtaken: invitations that overtake one another."""
