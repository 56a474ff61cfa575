// Package parse: patterns read into their parts, and the faults of those that are wrong.
package parse

import (
	"lineal/api"
	"lineal/chars"
	"lineal/fault"
	"lineal/part"
)

// Pattern reads a pattern into its alternatives, or tells its first fault.
func Pattern(pattern string) (part.Part, error) {
	letters, err := chars.Letters(pattern, api.MaxPattern)
	if err != nil {
		return nil, err
	}
	r := &reader{letters: letters, length: len(pattern)}
	whole, err := r.alternatives()
	if err != nil {
		return nil, err
	}
	if !r.atEnd() {
		return nil, r.wrong() // a ) that closes nothing
	}
	if part.PatternSize(whole) > api.MaxSize {
		return nil, fault.New(fault.Big, 0)
	}
	return whole, nil
}

// alternatives reads up to the pattern's end, or to a ) that belongs to whoever asks.
func (r *reader) alternatives() (part.Part, error) {
	var choice part.Choice
	for {
		terms, err := r.terms()
		if err != nil {
			return nil, err
		}
		choice = append(choice, terms)
		if !r.take("|") {
			return choice, nil
		}
	}
}

func (r *reader) terms() (part.Part, error) {
	var sequence part.Sequence
	for !r.atEnd() && r.peek() != '|' && r.peek() != ')' {
		term, err := r.term()
		if err != nil {
			return nil, err
		}
		sequence = append(sequence, term)
	}
	return sequence, nil
}

func (r *reader) term() (part.Part, error) {
	if assertion, ok := r.assertion(); ok {
		return assertion, nil
	}
	atom, err := r.atom()
	if err != nil {
		return nil, err
	}
	return r.quantified(atom)
}

func (r *reader) assertion() (part.Assertion, bool) {
	switch {
	case r.take("^"):
		return part.Begin, true
	case r.take("$"):
		return part.End, true
	case r.take(`\b`):
		return part.Edge, true
	case r.take(`\B`):
		return part.Between, true
	}
	return 0, false
}

func (r *reader) atom() (part.Part, error) {
	switch char := r.peek(); char {
	case '*', '+', '?', '{', '}', ']':
		return nil, r.wrong()
	case '(':
		return r.group()
	case '[':
		return r.class()
	case '\\':
		return r.escape()
	case '.':
		r.next++
		return part.Any{}, nil
	default:
		r.next++
		return part.Char(char), nil
	}
}

func (r *reader) group() (part.Part, error) {
	if r.depth == api.MaxDepth {
		return nil, fault.New(fault.Deep, r.place())
	}
	if err := r.opening(); err != nil {
		return nil, err
	}
	r.depth++
	inner, err := r.alternatives()
	r.depth--
	if err != nil {
		return nil, err
	}
	if !r.take(")") {
		return nil, r.wrong()
	}
	return inner, nil
}

// opening takes the ( or (?: that a group begins with.
func (r *reader) opening() error {
	open := r.place()
	r.next++
	if !r.take("?") || r.take(":") {
		return nil
	}
	switch r.peek() {
	case '=', '!', '<':
		return fault.New(fault.Unsupported, open)
	}
	return r.wrong()
}
