package service

import (
	"errors"
	"strconv"

	"mandate/api"
)

// fault is an error of the api's. What it tells is the answer to the request that it is against.
type fault struct {
	errno api.Errno
}

func (f fault) Error() string {
	return "error " + strconv.Itoa(int(f.errno))
}

// placed is an error of which it is known where it lies: on a line of a configuration, or at a byte of a request.
type placed struct {
	at  int
	err error
}

func (p placed) Error() string {
	return p.err.Error() + " at " + strconv.Itoa(p.at)
}

func (p placed) Unwrap() error {
	return p.err
}

// found tells where an error lies, 0 if that is not known, and its number.
func found(err error) (int, api.Errno) {
	var p placed
	var f fault
	// Without one of them what it tells is zero.
	errors.As(err, &p)
	errors.As(err, &f)
	return p.at, f.errno
}
