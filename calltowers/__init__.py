"""Calltowers: promises about programs whose calls are as deep as they like."""
