package resolve

import "leasehold/api"

// failure is what an examination panics with at its first error. The zero failure is none.
type failure struct {
	err    api.Errno
	offset int
}

// refuseIf ends an examination if something is wrong.
func refuseIf(wrong bool, err api.Errno, offset int) {
	if wrong {
		panic(failure{err, offset})
	}
}

// attempt makes an examination, and returns the failure that has ended it, if there was one.
func attempt(examine func()) (f failure) {
	defer func() {
		if cause := recover(); cause != nil {
			f = failureOf(cause)
		}
	}()
	examine()
	return failure{}
}

// failureOf returns the failure that an examination has panicked with. The functions of the package never panic: any other cause (none is known) is an error too.
func failureOf(cause any) failure {
	if f, ok := cause.(failure); ok {
		return f
	}
	return failure{api.ErrArg, 0}
}
