package chain

// mixer tells numbers of all sizes that look mixed, the same ones each time.
func mixer() func() int {
	seed := uint64(10)
	next := func() uint64 {
		seed ^= seed << 13
		seed ^= seed >> 7
		seed ^= seed << 17
		return seed
	}
	return func() int { return int(int64(next()) >> (next() % 64)) }
}

// below gives what tells mixed numbers from 0 on, below n.
func below(next func() int) func(n int) int {
	return func(n int) int { return int(uint(next()) % uint(n)) }
}
