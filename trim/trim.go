// Package trim is layer 2: what two lists have in common at their ends: see shared/doc/02-trim.md.
package trim

// Ends answers how many are the same at the beginning of both lists, and then, of what is left, at the end.
func Ends[T comparable](a, b []T) (int, int) {
	n := ahead(a, b)
	return n, behind(a[n:], b[n:])
}

// Same tells whether both lists are as long, and the same in each place.
func Same[T comparable](a, b []T) bool {
	return len(a) == len(b) && ahead(a, b) == len(a)
}

// ahead counts what is the same at the beginning. An interface may hold what
// can't be compared: holding two such against each other panics, and they are
// taken as unlike.
func ahead[T comparable](a, b []T) (n int) {
	defer func() { _ = recover() }()
	for n < len(a) && n < len(b) && a[n] == b[n] {
		n++
	}
	return n
}

// behind counts what is the same at the end, likewise.
func behind[T comparable](a, b []T) (n int) {
	defer func() { _ = recover() }()
	for n < len(a) && n < len(b) && a[len(a)-1-n] == b[len(b)-1-n] {
		n++
	}
	return n
}
