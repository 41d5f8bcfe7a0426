"""Wordways: ways through a web whose names spell a word."""
