"""Oneround: crossings joined one of three ways, so that all is one round."""
