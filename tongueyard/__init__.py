"""Tongueyard: grammars, texts and trees kept in one house."""
