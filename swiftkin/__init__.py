"""Swiftkin: kinds of many elders, looked up plainly and by what is remembered."""
