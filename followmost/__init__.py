"""Followmost: people who follow their neighbours."""
