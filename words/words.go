// Package words is bytes and words.
package words

// wordSize is how many bytes a word holds.
const wordSize = 8

// Load is the number of bytes, the lowest first; of more than eight the first eight.
func Load(b []byte) uint64 {
	var x uint64
	for i := range min(len(b), wordSize) {
		x |= uint64(b[i]) << (8 * i)
	}
	return x
}

// Store is a number's lowest n bytes, the lowest first; n below 0 counts as 0, above 8 as 8.
func Store(x uint64, n int) []byte {
	out := make([]byte, min(max(n, 0), wordSize))
	for i := range len(out) {
		out[i] = byte(x >> (8 * i))
	}
	return out
}

// Xor is one row of bytes laid over another one, as long as the shorter one.
func Xor(a, b []byte) []byte {
	out := make([]byte, min(len(a), len(b)))
	for i := range len(out) {
		out[i] = a[i] ^ b[i]
	}
	return out
}

// Equal tells whether two rows are the same.
// It looks at all bytes of equally long ones, so that the time it takes doesn't tell where they differ.
func Equal(a, b []byte) bool {
	if len(a) != len(b) {
		return false
	}
	var differ byte
	for i := range len(a) {
		differ |= a[i] ^ b[i]
	}
	return differ == 0
}

// Select is b for bit 1, a for bit 0, if both are equally long; else nothing.
// It does the same things for both bits, so that the time it takes doesn't tell which one is taken.
func Select(bit int, a, b []byte) []byte {
	if len(a) != len(b) || bit != 0 && bit != 1 {
		return nil
	}
	mask := -byte(bit)
	out := make([]byte, len(a))
	for i := range len(out) {
		out[i] = a[i] ^ mask&(a[i]^b[i])
	}
	return out
}

// Zero tells whether all bytes are 0; of none: yes.
// It looks at all of them, so that the time it takes doesn't tell where another one stands.
func Zero(b []byte) bool {
	var some byte
	for i := range len(b) {
		some |= b[i]
	}
	return some == 0
}

// Join is rows of bytes, one behind the other.
func Join(l ...[]byte) []byte {
	size := 0
	for i := range len(l) {
		size += len(l[i])
	}
	out := make([]byte, 0, size)
	for i := range len(l) {
		out = append(out, l[i]...)
	}
	return out
}
