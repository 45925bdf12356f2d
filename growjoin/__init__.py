"""Growjoin: worths that grow by joining, agreed by hands."""
