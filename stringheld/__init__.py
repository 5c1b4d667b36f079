"""Stringheld: which rules of text handling hold in which string libraries."""
