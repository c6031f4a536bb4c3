"""The names, arguments and kinds of values that the interface lists."""

import importlib
import inspect
import unittest

FUNCTIONS = {
    "bellows.base.sums": {
        "adler32": "(data, start=1)",
        "crc32": "(data, start=0)",
        "adler32_joined": "(first, second, size)",
        "crc32_joined": "(first, second, size)",
        "adler32_front": "(whole, second, size)",
        "crc32_front": "(whole, second, size)",
    },
    "bellows.base.steps": {
        "put_steps": "(number)",
        "get_steps": "(data, at)",
    },
    "bellows.codes.canon": {
        "weight": "(lengths)",
        "codes": "(lengths)",
        "is_complete": "(lengths)",
        "is_oversubscribed": "(lengths)",
    },
    "bellows.codes.shortest": {
        "cost": "(lengths, counts)",
        "shortest": "(counts, most)",
        "certificate": "(counts, most)",
        "check_lengths": "(counts, most, lengths, rows)",
    },
    "bellows.copies.symbols": {
        "length_parts": "(length)",
        "distance_parts": "(distance)",
        "length_base": "(symbol)",
        "distance_base": "(symbol)",
    },
    "bellows.copies.expand": {
        "expand": "(tokens, dictionary=())",
        "symbol_counts": "(tokens)",
        "token_cost": "(token, letters, distances)",
    },
    "bellows.copies.parse": {
        "parse": "(data, dictionary, letters, distances, window=32768)",
        "check_parse": "(data, dictionary, letters, distances, window, tokens, ahead)",
    },
    "bellows.copies.finder": {
        "common_length": "(history, first, second, most)",
        "candidates": "(history, at, floor, window)",
        "search": "(history, at, end, places, nice, longer_than)",
    },
    "bellows.inflate.grammar": {
        "read_blocks": "(stream, start=0)",
        "is_legal": "(blocks, start=0)",
        "write_blocks": "(writer, blocks)",
        "block_lengths": "(block)",
        "block_tokens": "(block)",
        "items_of": "(tokens)",
    },
    "bellows.inflate.whole": {
        "inflate": "(stream, start=0, dictionary=(), limit=4096, window=32768)",
    },
    "bellows.inflate.machine": {
        "resume": "(state, *, limit=4096, window=32768)",
    },
    "bellows.deflate.heads": {
        "rows_of": "(lengths)",
        "head_of": "(letters, distances)",
        "head_size": "(head)",
    },
    "bellows.deflate.blocks": {
        "block_size": "(way, tokens, data, at)",
        "write_block": "(writer, way, tokens, data, is_last)",
        "best_way": "(tokens, data, at)",
        "dynamic_lengths": "(tokens)",
    },
    "bellows.deflate.borders": {
        "least_division": "(tokens, data, places, at)",
        "division_table": "(tokens, data, places, at)",
        "check_division": "(tokens, data, places, at, division, table)",
    },
    "bellows.deflate.least": {
        "deflate_least": "(data, dictionary=(), *, rounds=3, passes=1, grain=1024, window=32768)",
        "plan_least": "(data, dictionary=(), *, rounds=3, passes=1, grain=1024, window=32768)",
    },
    "bellows.deflate.levels": {
        "settings": "(level)",
        "usable": "(copy, strategy)",
        "run_at": "(history, at, end, floor)",
    },
    "bellows.wraps.zlibs": {
        "zlib_read": "(text, *, dictionary=None, limit=4096)",
        "zlib_whole": "(text, *, dictionary=None, limit=4096)",
        "zlib_wrap": "(stream, data, *, dictionary=None, window=32768, level=2)",
    },
    "bellows.wraps.gzips": {
        "gzip_read": "(text, *, limit=4096)",
        "gzip_lead": "(text, *, limit=4096)",
        "member_at": "(text, start, *, limit=4096)",
        "gzip_member": "(header, stream, data)",
        "gzip_header": "(header)",
        "read_header": "(text, start)",
        "plain_header": "()",
    },
    "bellows.ways.points": {
        "outs": "(stream)",
        "reach": "(outs, index)",
        "choose": "(outs, count)",
        "access_points": "(stream, count)",
        "read_at": "(stream, points, start, count)",
    },
    "bellows.ways.join": {
        "join": "(first, second, *, leaning=False)",
        "cut": "(stream, start, stop)",
        "independent": "(stream, start, stop)",
        "gzip_merge": "(text)",
        "zlib_join": "(first, second)",
    },
    "bellows.ways.recipe": {
        "guess": "(data, index)",
        "recipe": "(stream)",
        "rebuild": "(data, recipe)",
        "squeeze": "(stream)",
    },
    "bellows.ways.salvage": {
        "starts": "(text)",
        "salvage": "(text)",
    },
    "bellows.log.records": {
        "write_member": "(first_entry, first_batch, batch_count, entries, level)",
        "read_member": "(data, start)",
        "read_header": "(data)",
        "write_frames": "(entries)",
        "read_frames": "(data)",
    },
    "bellows.log.mark": {
        "write_slot": "(state)",
        "read_state": "(data)",
        "write_plan": "(segments)",
        "read_plan": "(data)",
    },
    "bellows.log.disk": {
        "drive": "(log, operation, disk)",
    },
}

CLASSES = {
    "bellows.base.bits": {
        "BitWriter": {
            "__init__": "(self)",
            "put": "(self, value, width)",
            "put_code": "(self, code, width)",
            "count": "(self)",
            "align": "(self)",
            "data": "(self)",
            "copy": "(self)",
        },
        "BitReader": {
            "__init__": "(self, data, at=0, end=None)",
            "take": "(self, width)",
            "look": "(self, width)",
            "place": "(self)",
            "left": "(self)",
            "align": "(self)",
        },
    },
    "bellows.codes.reading": {
        "Book": {
            "__init__": "(self, lengths)",
            "read": "(self, reader)",
            "write": "(self, symbol, writer)",
            "size": "(self, symbol)",
        },
    },
    "bellows.copies.finder": {
        "Chains": {
            "__init__": "(self, window)",
            "enter": "(self, history, until)",
            "nearest": "(self, history, at, count)",
            "forget": "(self, floor)",
            "floor": "(self)",
        },
    },
    "bellows.inflate.machine": {
        "Inflater": {
            "__init__": "(self, dictionary=(), *, limit=4096, window=32768)",
            "feed": "(self, part, room=None)",
            "position": "(self)",
            "given": "(self)",
            "owed": "(self)",
            "sums": "(self)",
            "ended": "(self)",
            "waits": "(self)",
            "rest": "(self)",
            "close": "(self)",
            "copy": "(self)",
            "sync": "(self)",
            "state": "(self)",
        },
    },
    "bellows.deflate.levels": {
        "Parser": {
            "__init__": "(self, history, at, floor, window)",
            "extend": "(self, values)",
            "step": "(self, numbers, strategy, bounded)",
            "at": "(self)",
            "front": "(self)",
            "end": "(self)",
            "floor": "(self)",
            "held": "(self)",
            "forget": "(self)",
            "part": "(self, first, last)",
            "twin": "(self)",
        },
    },
    "bellows.deflate.machine": {
        "Deflater": {
            "__init__": "(self, level=6, strategy=0, window=32768, room=1024, before=())",
            "feed": "(self, values)",
            "flush": "(self, kind)",
            "change": "(self, level, strategy)",
            "tune": "(self, chain, nice, patience, good)",
            "prime": "(self, value, count)",
            "finish": "(self)",
            "take": "(self, most=None)",
            "ready": "(self)",
            "report": "(self)",
            "copy": "(self)",
            "reset": "(self)",
        },
    },
    "bellows.wraps.feeding": {
        "ZlibReader": {
            "__init__": "(self, *, dictionary=None, limit=4096)",
            "feed": "(self, part, room=None)",
            "given": "(self)",
            "owed": "(self)",
            "ended": "(self)",
            "waits": "(self)",
            "close": "(self)",
            "copy": "(self)",
            "rest": "(self)",
            "set_dictionary": "(self, dictionary)",
            "head": "(self)",
        },
        "GzipReader": {
            "__init__": "(self, *, limit=4096)",
            "feed": "(self, part, room=None)",
            "given": "(self)",
            "owed": "(self)",
            "ended": "(self)",
            "waits": "(self)",
            "close": "(self)",
            "copy": "(self)",
            "members": "(self)",
        },
    },
    "bellows.log.store": {
        "Log": {
            "__init__": "(self, *, full=1024, ratio=2)",
            "begin": "(self, operation)",
            "request": "(self)",
            "answer": "(self, value)",
            "result": "(self)",
            "entry_range": "(self)",
            "segments": "(self)",
            "active": "(self)",
        },
    },
    "bellows.log.disk": {
        "Disk": {
            "__init__": "(self)",
            "perform": "(self, request)",
            "set_room": "(self, count)",
            "crash": "(self, choices)",
            "files": "(self)",
        },
    },
    "bellows.desk.session": {
        "Session": {
            "__init__": "(self, wrapper, level, strategy, window, dictionary)",
            "act": "(self, action)",
            "pending": "(self)",
            "owed": "(self)",
            "ended": "(self)",
            "transcript": "(self)",
        },
    },
}


# The kinds of flushes, and the strategies.
NUMBERS = {
    "bellows.deflate.levels": {"DEFAULT": 0, "FILTERED": 1, "HUFFMAN": 2, "RUNS": 3, "FIXED": 4},
    "bellows.deflate.machine": {"NO": 0, "BLOCK": 1, "PARTIAL": 2, "SYNC": 3, "FULL": 4},
}


class InterfaceTest(unittest.TestCase):
    def test_functions_stand_in_their_modules_with_their_arguments(self):
        for place, functions in FUNCTIONS.items():
            module = importlib.import_module(place)
            for name, signature in functions.items():
                function = getattr(module, name)
                self.assertTrue(inspect.isfunction(function), name)
                self.assertEqual(function.__module__, place)
                self.assertEqual(str(inspect.signature(function)), signature, name)

    def test_numbers(self):
        for place, named in NUMBERS.items():
            module = importlib.import_module(place)
            self.assertEqual({name: getattr(module, name) for name in named}, named)

    def test_classes_define_their_methods_themselves(self):
        for place, classes in CLASSES.items():
            module = importlib.import_module(place)
            for name, methods in classes.items():
                found = getattr(module, name)
                self.assertTrue(inspect.isclass(found), name)
                self.assertEqual(found.__module__, place)
                for method, signature in methods.items():
                    self.assertIn(method, vars(found), name)
                    told = str(inspect.signature(vars(found)[method]))
                    self.assertEqual(told, signature, f"{name}.{method}")


if __name__ == "__main__":
    unittest.main()
