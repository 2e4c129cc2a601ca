"""Onlyjoins: tells whether rules that call themselves ever needed their calls."""
