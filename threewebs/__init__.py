"""Threewebs: plane nets and the three kinds of their ties."""
