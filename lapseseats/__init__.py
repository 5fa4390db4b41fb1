"""Lapseseats: seats that are kept by words, and given up."""
