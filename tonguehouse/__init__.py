"""Tonguehouse: told texts of a program in many tongues, looked at, let, shown with a why."""
