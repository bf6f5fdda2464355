"""The tests of rulescan: run them with .ci/run, as README.md tells."""
