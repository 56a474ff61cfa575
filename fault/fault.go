// Package fault: what goes wrong inside patterns, texts, documents and schemas, as
// values of error.
package fault

import (
	"errors"
	"strconv"
)

// One sentinel for each kind of fault.
var (
	Text        = errors.New("bytes that are no text")
	Long        = errors.New("too many bytes")
	Syntax      = errors.New("no pattern")
	Range       = errors.New("a range or counts the wrong way about")
	Count       = errors.New("a count that is too great")
	Unsupported = errors.New("a pattern that needs memory")
	Deep        = errors.New("groups too deep in one another")
	Big         = errors.New("a pattern that is too large")
	Tree        = errors.New("nodes that are no document")
	Schema      = errors.New("schemas that may not be")
)

// Fault is a fault of one kind at one place: how many bytes stand ahead of it, or
// how many nodes or schemas, if it is theirs.
type Fault struct {
	Kind error
	At   int
}

// New makes a fault of a kind (one of the sentinels) at a place.
func New(kind error, at int) error { return &Fault{Kind: kind, At: at} }

func (f *Fault) Error() string {
	return f.Kind.Error() + " at " + strconv.Itoa(f.At)
}

// Unwrap lets errors.Is ask for the kind.
func (f *Fault) Unwrap() error { return f.Kind }
