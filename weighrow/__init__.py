"""Weighrow: rows of weighted marks, searched, with logs that anybody can add up."""
