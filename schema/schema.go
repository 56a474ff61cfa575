// Package schema: schemas, with their patterns ready to be found.
package schema

import (
	"slices"

	"lineal/api"
	"lineal/chars"
	"lineal/fault"
	"lineal/parse"
	"lineal/program"
	"lineal/store"
)

// Schema is what is asked of the nodes that are held against it.
type Schema struct {
	pattern *store.Store // nil, if it has none
	format  *store.Store // nil, if it has none
	keys    []*store.Store
	subs    []int // one for each of the keys
	more    int
}

// What More may be beside the number of a schema.
const (
	leaveAlone = -2
	tellExtra  = -1
)

// Read reads schemas, or tells the first of them that can't be one.
func Read(given []api.Schema) ([]*Schema, error) {
	if len(given) == 0 {
		return nil, fault.New(fault.Schema, 0)
	}
	if len(given) > api.MaxSchemas {
		return nil, fault.New(fault.Schema, api.MaxSchemas)
	}
	var schemas []*Schema
	for number := range given {
		if !numbersFit(&given[number], number, len(given)) {
			return nil, fault.New(fault.Schema, number)
		}
		s, err := read(&given[number])
		if err != nil {
			return nil, fault.New(fault.Schema, number)
		}
		schemas = append(schemas, s)
	}
	return schemas, nil
}

// numbersFit tells whether all is right with a schema but its patterns; number is
// its own, of count.
func numbersFit(given *api.Schema, number, count int) bool {
	if given.Format < noFormat || given.Format > lastFormat {
		return false
	}
	if len(given.Keys) > api.MaxKeys || len(given.Subs) != len(given.Keys) {
		return false
	}
	isBehind := func(other int) bool { return number < other && other < count }
	for _, sub := range given.Subs {
		if !isBehind(sub) {
			return false
		}
	}
	return given.More == leaveAlone || given.More == tellExtra || isBehind(given.More)
}

func read(given *api.Schema) (*Schema, error) {
	s := &Schema{subs: slices.Clone(given.Subs), more: given.More}
	var err error
	if given.HasPattern {
		if s.pattern, err = finder(given.Pattern); err != nil {
			return nil, err
		}
	}
	if given.Format != noFormat {
		if s.format, err = finder(formatPattern(given.Format)); err != nil {
			return nil, err
		}
	}
	for _, pattern := range given.Keys {
		key, err := finder(pattern)
		if err != nil {
			return nil, err
		}
		s.keys = append(s.keys, key)
	}
	return s, nil
}

func finder(pattern string) (*store.Store, error) {
	whole, err := parse.Pattern(pattern)
	if err != nil {
		return nil, err
	}
	return store.New(program.New(whole), api.MaxStates), nil
}

// PatternPasses tells whether the schema's pattern, if it has one, matches
// somewhere in a string.
func (s *Schema) PatternPasses(text []chars.Letter) bool {
	return s.pattern == nil || s.pattern.Find(text, nil)
}

// FormatPasses tells the same of its format.
func (s *Schema) FormatPasses(text []chars.Letter) bool {
	return s.format == nil || s.format.Find(text, nil)
}

// ForChild tells the numbers of the schemas, some perhaps twice, against which an
// object's child with this key is held, and whether the child is one too many.
func (s *Schema) ForChild(key []chars.Letter) (schemas []int, extra bool) {
	for k, pattern := range s.keys {
		if pattern.Find(key, nil) {
			schemas = append(schemas, s.subs[k])
		}
	}
	switch {
	case len(schemas) > 0 || s.more == leaveAlone:
		return schemas, false
	case s.more == tellExtra:
		return nil, true
	}
	return []int{s.more}, false
}
