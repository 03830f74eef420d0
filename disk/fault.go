package disk

import (
	"strconv"

	"docket/api"
)

// Fault is a refusal.
type Fault struct {
	Call, Name string
	Why        api.Errno
}

// NewFault makes a refusal.
func NewFault(call, name string, why api.Errno) *Fault {
	return &Fault{Call: call, Name: name, Why: why}
}

// refusal tells a number as what a call answers: nothing, if it is OK.
func refusal(call, name string, why api.Errno) error {
	if why == api.OK {
		return nil
	}
	return NewFault(call, name, why)
}

// Error tells a refusal in words.
func (f *Fault) Error() string {
	return f.Call + " " + strconv.Quote(f.Name) + ": " + f.Why.Error()
}

// Unwrap tells the number.
func (f *Fault) Unwrap() error { return f.Why }
