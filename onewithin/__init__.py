"""Onewithin: one at a time by plain boxes."""
