package parse

import (
	"lineal/fault"
	"lineal/part"
)

func (r *reader) class() (part.Part, error) {
	r.next++
	class := part.Class{Not: r.take("^")}
	for !r.take("]") {
		if r.atEnd() {
			return nil, r.wrong()
		}
		if err := r.addMember(&class); err != nil {
			return nil, err
		}
	}
	return class, nil
}

// addMember reads a member, or the range that begins with it, into a class.
func (r *reader) addMember(class *part.Class) error {
	member, err := r.member()
	if err != nil {
		return err
	}
	if r.isRange() {
		return r.addRange(class, member)
	}
	switch member := member.(type) {
	case part.Char:
		class.Ranges = append(class.Ranges, part.Range{First: member, Last: member})
	case part.Shorthand:
		class.Shorthands = append(class.Shorthands, member)
	}
	return nil
}

// isRange tells whether what stands behind a member makes a range of it.
func (r *reader) isRange() bool {
	return r.peek() == '-' && r.ahead(1) != ']' && r.ahead(1) != noChar
}

func (r *reader) addRange(class *part.Class, begin part.Part) error {
	dash := r.place()
	r.next++
	end, err := r.member()
	if err != nil {
		return err
	}
	first, firstOne := begin.(part.Char)
	last, lastOne := end.(part.Char)
	if !firstOne || !lastOne || last < first {
		return fault.New(fault.Range, dash)
	}
	class.Ranges = append(class.Ranges, part.Range{First: first, Last: last})
	return nil
}

// member reads a Char or a Shorthand. Two escapes mean here what they don't outside.
func (r *reader) member() (part.Part, error) {
	switch {
	case r.take(`\b`):
		return part.Char('\b'), nil
	case r.take(`\-`):
		return part.Char('-'), nil
	case r.peek() == '\\':
		return r.escape()
	}
	char := r.peek()
	r.next++
	return part.Char(char), nil
}
