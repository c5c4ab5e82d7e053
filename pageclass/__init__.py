"""Pageclass: a virtual memory manager whose pages are shared until they are written."""
