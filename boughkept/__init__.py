"""Boughkept: what holds at every tree, shown maker by maker, or a tree that breaks it."""
