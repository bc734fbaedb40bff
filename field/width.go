package field

// isWidth tells whether a number may have so many bytes.
func isWidth(bytes int) bool {
	switch bytes {
	case 1, 2, 4, 8:
		return true
	}
	return false
}

// split lays out the bytes of a number of some width, the lowest first. Each width has all that the narrower ones have.
func split(n uint64, bytes int) (parts [8]byte) {
	switch bytes {
	case 8:
		parts[7], parts[6], parts[5], parts[4] = byte(n>>56), byte(n>>48), byte(n>>40), byte(n>>32)
		fallthrough
	case 4:
		parts[3], parts[2] = byte(n>>24), byte(n>>16)
		fallthrough
	case 2:
		parts[1] = byte(n >> 8)
		fallthrough
	case 1:
		parts[0] = byte(n)
	}
	return parts
}

// unite is what split came from; s has at least so many bytes.
func unite(s string, bytes int) (n uint64) {
	switch bytes {
	case 8:
		n = uint64(s[7])<<56 | uint64(s[6])<<48 | uint64(s[5])<<40 | uint64(s[4])<<32
		fallthrough
	case 4:
		n |= uint64(s[3])<<24 | uint64(s[2])<<16
		fallthrough
	case 2:
		n |= uint64(s[1]) << 8
		fallthrough
	case 1:
		n |= uint64(s[0])
	}
	return n
}
