"""Wetmarks: strips rolled upon drums and upon one another, while the ink is wet."""
