// Package akin: what may be equal to what, decided in two ways: see DOC.md.
package akin

// Errno is what a call answers: OK or the reason for a refusal.
type Errno int

const (
	OK       Errno = 0
	ErrLong  Errno = 1 // a formula above its bound
	ErrForm  Errno = 2 // no formula
	ErrDeep  Errno = 3 // too many brackets within one another
	ErrMany  Errno = 4 // too many terms or claims
	ErrArg   Errno = 5 // no such way
	ErrModel Errno = 6 // no written case
	ErrTape  Errno = 7 // no tape
)

// Check tells whether a text is a right formula (P3).
func Check(formula string) (Errno, int) {
	_, errno, place := read(formula)
	return errno, place
}

// Parts tells a formula's terms and claims (P4).
func Parts(formula string) (string, Errno) {
	f, errno, _ := read(formula)
	if errno != OK {
		return "", errno
	}
	return f.partsText(), OK
}

// Holds tells whether a written case is a model (P5).
func Holds(formula string, model string) (bool, Errno) {
	f, errno, _ := read(formula)
	if errno != OK {
		return false, errno
	}
	s, ok := f.situation(model)
	if !ok {
		return false, ErrModel
	}
	return f.isModel(s), OK
}

// Count tells how many models a formula has (P6).
func Count(formula string) (int, Errno) {
	f, errno, _ := read(formula)
	if errno != OK {
		return 0, errno
	}
	return f.countModels(), OK
}

// Decide tells whether a formula has a model, and one (P7).
func Decide(formula string, way int, tape string) (bool, string, Errno) {
	f, errno, _ := read(formula)
	switch {
	case errno != OK:
		return false, "", errno
	case way != 0 && way != 1:
		return false, "", ErrArg
	case !isTape(tape):
		return false, "", ErrTape
	}
	found, model := f.decide(way, tape)
	return found, model, OK
}
