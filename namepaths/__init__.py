"""Namepaths: what a name means, told by ways through a net of scopes."""
