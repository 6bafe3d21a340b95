"""Pactroom: pacts over several houses, each with its own book."""
