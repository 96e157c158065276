// Package sum: the sum of a text.
package sum

const (
	start   = 1
	factor  = 257
	modulus = 65521
)

// Of gives the sum of all parts, one behind the other.
func Of(parts ...[]byte) int {
	value := start
	for _, part := range parts {
		for _, b := range part {
			value = (value*factor + int(b) + 1) % modulus
		}
	}
	return value
}
