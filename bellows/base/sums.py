"""The two checksums, and the sums of joined lists (points 102 to 104)."""

from bellows.errors import OutOfRange

_ALL_BITS = 0xFFFFFFFF
_ADLER_MODULUS = 65521

_CRC_POLYNOMIAL = 0xEDB88320
# What four steps of point 103 make of 32 bits that hold only the index: so a byte takes two
# steps instead of eight.
_CRC_FOUR_STEPS = (
    0x00000000, 0x1DB71064, 0x3B6E20C8, 0x26D930AC,
    0x76DC4190, 0x6B6B51F4, 0x4DB26158, 0x5005713C,
    0xEDB88320, 0xF00F9344, 0xD6D6A3E8, 0xCB61B38C,
    0x9B64C2B0, 0x86D3D2D4, 0xA00AE278, 0xBDBDF21C,
)

# Without its two inversions, a CRC is the remainder of a polynomial modulo the one above, where
# bit 31 belongs to the power 0. A byte behind a list multiplies its remainder by the power 8.
_POWER_8 = 0x00800000
_POWER_MINUS_8 = 0x6567CB95


def adler32(data, start=1):
    """The Adler sum of a list of bytes (point 102)."""
    if not _is_adler(start):
        raise OutOfRange(0)
    low = start % 65536
    high = start // 65536
    for byte in data:
        low = (low + byte) % _ADLER_MODULUS
        high = (high + low) % _ADLER_MODULUS
    return 65536 * high + low


def crc32(data, start=0):
    """The CRC-32 of a list of bytes (point 103)."""
    if not _is_crc(start):
        raise OutOfRange(0)
    crc = start ^ _ALL_BITS
    for byte in data:
        crc ^= byte
        crc = (crc >> 4) ^ _CRC_FOUR_STEPS[crc & 15]
        crc = (crc >> 4) ^ _CRC_FOUR_STEPS[crc & 15]
    return crc ^ _ALL_BITS


def adler32_joined(first, second, size):
    """The Adler sum of a list followed by a second list of `size` bytes (point 104)."""
    _check_three(_is_adler(first), _is_adler(second), size)
    # The second list was summed from 1 on instead of from the low half of the first sum, and each
    # of its bytes added this difference to the high half once more.
    excess = first % 65536 - 1
    low = second % 65536 + excess
    high = second // 65536 + first // 65536 + size * excess
    return 65536 * (high % _ADLER_MODULUS) + low % _ADLER_MODULUS


def crc32_joined(first, second, size):
    """The CRC-32 of a list followed by a second list of `size` bytes (point 104)."""
    _check_three(_is_crc(first), _is_crc(second), size)
    return _moved(first, _POWER_8, size) ^ second


def adler32_front(whole, second, size):
    """The Adler sum of what stands before the last `size` bytes of a list (point 104)."""
    _check_three(_is_adler(whole), _is_adler(second), size)
    excess = whole % 65536 - second % 65536
    high = whole // 65536 - second // 65536 - size * excess
    return 65536 * (high % _ADLER_MODULUS) + (excess + 1) % _ADLER_MODULUS


def crc32_front(whole, second, size):
    """The CRC-32 of what stands before the last `size` bytes of a list (point 104)."""
    _check_three(_is_crc(whole), _is_crc(second), size)
    return _moved(whole ^ second, _POWER_MINUS_8, size)


def _is_crc(number):
    return 0 <= number <= _ALL_BITS


def _is_adler(number):
    return _is_crc(number) and number % 65536 < _ADLER_MODULUS and number // 65536 < _ADLER_MODULUS


def _check_three(is_first_valid, is_second_valid, size):
    if not is_first_valid:
        raise OutOfRange(0)
    if not is_second_valid:
        raise OutOfRange(1)
    if not 0 <= size <= 2 ** 40:
        raise OutOfRange(2)


def _moved(crc, factor, times):
    """The product of a remainder and a factor, taken `times` times: by squares, to take few steps."""
    while times > 0:
        if times & 1 == 1:
            crc = _product(crc, factor)
        factor = _product(factor, factor)
        times >>= 1
    return crc


def _product(first, second):
    """The product of two remainders."""
    product = 0
    for power in range(32):
        if (first >> (31 - power)) & 1 == 1:
            product ^= second
        carry = second & 1
        second >>= 1
        if carry == 1:
            second ^= _CRC_POLYNOMIAL
    return product
