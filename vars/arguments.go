package vars

import (
	"slices"

	"conch/api"
	"conch/chars"
)

// arguments is what a shell was called with. Its list is shared with nobody.
type arguments struct {
	zero string // what the shell is called
	list []string
}

// copied is the arguments, in a list of their own.
func (a *arguments) copied() []string { return slices.Clone(a.list) }

// replace has these be the arguments.
func (a *arguments) replace(args ...string) { a.list = slices.Clone(args) }

// count is how many arguments there are.
func (a *arguments) count() int { return len(a.list) }

// drop takes the first n arguments away.
func (a *arguments) drop(n int) api.Errno {
	if n < 0 || n > len(a.list) {
		return api.ErrArg
	}
	// The list is not copied, so that dropping one by one takes no time in the square; what is dropped is not held on to.
	clear(a.list[:n])
	a.list = a.list[n:]
	return api.OK
}

// joined is all arguments in one text, and whether there are any.
func (a *arguments) joined() (string, bool) {
	return chars.Join(" ", a.list...), len(a.list) > 0
}

// numbered is the argument whose number the digits are, and whether there is one.
func (a *arguments) numbered(digits string) (string, bool) {
	if digits == "0" {
		return a.zero, true
	}
	n, e := chars.Number(digits, len(a.list))
	// A nought ahead, which Number passes over, is none of a number here.
	if e != api.OK || digits[0] == '0' {
		return "", false
	}
	return a.list[n-1], true
}
