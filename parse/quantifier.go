package parse

import (
	"lineal/api"
	"lineal/fault"
	"lineal/part"
)

// quantified reads the quantifier behind an atom, if there is one.
func (r *reader) quantified(atom part.Part) (part.Part, error) {
	repeat := part.Repeat{Part: atom}
	switch {
	case r.take("*"):
		repeat.Most = part.NoMost
	case r.take("+"):
		repeat.Least, repeat.Most = 1, part.NoMost
	case r.take("?"):
		repeat.Most = 1
	case r.peek() == '{':
		if err := r.counts(&repeat); err != nil {
			return nil, err
		}
	default:
		return atom, nil
	}
	r.take("?") // says nothing
	return repeat, nil
}

func (r *reader) counts(repeat *part.Repeat) error {
	open := r.place()
	r.next++
	least, err := r.count()
	if err != nil {
		return err
	}
	repeat.Least, repeat.Most = least, least
	if r.take("}") {
		return nil
	}
	if !r.take(",") {
		return r.wrong()
	}
	if r.take("}") {
		repeat.Most = part.NoMost
		return nil
	}
	if repeat.Most, err = r.count(); err != nil {
		return err
	}
	if !r.take("}") {
		return r.wrong()
	}
	if repeat.Most < least {
		return fault.New(fault.Range, open)
	}
	return nil
}

// count reads one or more digits. They may be many, so what is above MaxCount
// isn't counted on.
func (r *reader) count() (int, error) {
	first := r.place()
	if !isDigit(r.peek()) {
		return 0, r.wrong()
	}
	number := 0
	for isDigit(r.peek()) {
		number = min(number*10+int(r.peek()-'0'), api.MaxCount+1)
		r.next++
	}
	if number > api.MaxCount {
		return 0, fault.New(fault.Count, first)
	}
	return number, nil
}

func isDigit(char rune) bool { return char >= '0' && char <= '9' }
