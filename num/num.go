// Package num is layer 1: see shared/doc/01-num.md.
package num

import "strconv"

// Print returns the decimal form of n.
func Print(n int) string { return strconv.Itoa(n) }

// Parse returns the number whose decimal form is s; false if there is none.
func Parse(s string) (int, bool) {
	n, err := strconv.Atoi(s)
	// Atoi also takes +1, -0 and 01, which are no decimal forms: only what
	// Print makes of n is one.
	if err != nil || Print(n) != s {
		return 0, false
	}
	return n, true
}

// Add returns the sum of a and all bs; false if an intermediate sum does not
// fit into 64 bits.
func Add(a int, bs ...int) (int, bool) {
	sum := a
	for _, b := range bs {
		next := sum + b
		// A sum that wrapped round lies on the wrong side of its first term.
		if (next < sum) != (b < 0) {
			return 0, false
		}
		sum = next
	}
	return sum, true
}

// Sub returns a minus b; false if it does not fit into 64 bits.
func Sub(a, b int) (int, bool) {
	diff := a - b
	// As in Add. It is not Add(a, -b), because the least number has no opposite.
	if (diff < a) != (b > 0) {
		return 0, false
	}
	return diff, true
}

// Place returns the index, from the beginning, of element i of n, which counts
// from the end if it is negative; false if there is no such element.
func Place(i, n int) (int, bool) {
	n = max(n, 0)
	at := fromFront(i, n)
	if at < 0 || at >= n {
		return 0, false
	}
	return at, true
}

// Span returns the half-open range of the indices of the elements from start to
// stop, inclusive, of n; 0, 0 if it is empty.
func Span(start, stop, n int) (int, int) {
	n = max(n, 0)
	first := max(fromFront(start, n), 0)
	last := min(fromFront(stop, n), n-1)
	if first > last {
		return 0, 0
	}
	return first, last + 1
}

// fromFront turns an index that may count from the end of n elements into one
// that counts from the beginning. It is out of range exactly if i is. The sum
// fits, because n is not negative.
func fromFront(i, n int) int {
	if i < 0 {
		return i + n
	}
	return i
}
