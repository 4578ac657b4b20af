package codec

// isBelow tells whether x is one of the numbers 0 to n - 1.
func isBelow(x int, n int) bool {
	return x >= 0 && x < n
}

// byteAt tells the byte of s at number i, or -1 if there is none. Reading may so run past the end of a text
// that is cut short; who reads compares where it came to with the text's length.
func byteAt(s string, i int) int {
	if !isBelow(i, len(s)) {
		return -1
	}
	return int(s[i])
}

func oneByte(a int) string {
	return string([]byte{byte(a)})
}

func twoBytes(a int, b int) string {
	return string([]byte{byte(a), byte(b)})
}

func fourBytes(a int, b int, c int, d int) string {
	return string([]byte{byte(a), byte(b), byte(c), byte(d)})
}
