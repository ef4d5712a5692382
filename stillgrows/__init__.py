"""Processions that groups join anywhere, and what can be said of them for ever."""
