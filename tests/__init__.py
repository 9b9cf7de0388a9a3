"""Tests of viewstrike."""
