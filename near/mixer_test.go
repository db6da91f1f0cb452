package near

// mixer tells numbers of all sizes that look mixed, the same ones each time: 0 or above.
func mixer() func() int {
	seed := uint64(8)
	next := func() uint64 {
		seed ^= seed << 13
		seed ^= seed >> 7
		seed ^= seed << 17
		return seed
	}
	return func() int { return int(next() >> 1 >> (next() % 63)) }
}
