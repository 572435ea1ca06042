package testtrees

// Numbers is a fixed sequence of numbers that look random. Its start decides which.
type Numbers uint32

// Below returns the next number, reduced to the range 0 to n - 1.
func (s *Numbers) Below(n int) int {
	*s = *s*1664525 + 1013904223
	return int(*s>>8) % n
}

// OneOf returns an element that the next number chooses.
func OneOf[T any](s *Numbers, choices ...T) T { return choices[s.Below(len(choices))] }
