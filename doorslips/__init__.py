"""Doorslips: what must be noted at the door, so that who came can go again."""
