package lineal

import (
	"errors"

	"lineal/api"
	"lineal/fault"
)

// number tells the number of an error's kind.
func number(err error) api.Errno {
	switch {
	case errors.Is(err, fault.Text):
		return api.ErrText
	case errors.Is(err, fault.Long):
		return api.ErrLong
	case errors.Is(err, fault.Range):
		return api.ErrRange
	case errors.Is(err, fault.Count):
		return api.ErrCount
	case errors.Is(err, fault.Unsupported):
		return api.ErrUnsupported
	case errors.Is(err, fault.Deep):
		return api.ErrDeep
	case errors.Is(err, fault.Big):
		return api.ErrBig
	case errors.Is(err, fault.Tree):
		return api.ErrTree
	case errors.Is(err, fault.Schema):
		return api.ErrSchema
	}
	return api.ErrSyntax
}

// place tells where an error is.
func place(err error) int {
	var f *fault.Fault
	if errors.As(err, &f) {
		return f.At
	}
	return 0
}
