"""Crewstep: complete crews step past anyone."""
