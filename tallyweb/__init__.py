"""Tallyweb: how many ties each has, and the webs that have so many."""
