"""Drafts of programs, and projects of libraries."""
