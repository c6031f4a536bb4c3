"""The log, which keeps batches of entries in gzip files on a disk that may crash."""
