"""Riverdue: a river's water dealt by the age of rights."""
