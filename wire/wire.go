// Package wire: the fields that messages and preimages are put together of.
package wire

// Two gives a number as two bytes, the higher one first.
func Two(number int) []byte {
	return []byte{byte(number >> 8), byte(number)}
}

// Number gives the number of which Two tells the two bytes.
func Number(two []byte) int {
	return int(two[0])<<8 | int(two[1])
}

// Join lays fields one behind the other, in new memory.
func Join(fields ...[]byte) []byte {
	var joined []byte
	for _, field := range fields {
		joined = append(joined, field...)
	}
	return joined
}
