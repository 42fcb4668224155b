"""Gapsalike: white space that no context tells apart."""
