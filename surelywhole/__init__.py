"""Surelywhole: complete answers from an incomplete store."""
