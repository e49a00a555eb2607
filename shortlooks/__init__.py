"""Rules that a watcher with a short look can keep."""
