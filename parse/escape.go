package parse

import (
	"strings"

	"lineal/fault"
	"lineal/part"
)

// escape reads one that means the same in a class and outside: a Char or a Shorthand.
func (r *reader) escape() (part.Part, error) {
	backslash := r.place()
	r.next++
	char := r.peek()
	switch {
	case strings.ContainsRune("dDwWsS", char):
		r.next++
		return part.Shorthand(char), nil
	case strings.ContainsRune("123456789kpP", char):
		return nil, fault.New(fault.Unsupported, backslash)
	}
	number, err := r.escapedNumber()
	if err != nil {
		return nil, err
	}
	return part.Char(number), nil
}

// escapedNumber reads what stands behind the backslash of a character's escape.
func (r *reader) escapedNumber() (rune, error) {
	char := r.peek()
	if number, ok := shortNumber(char); ok {
		r.next++
		return number, nil
	}
	switch {
	case r.take("0"):
		return r.zero()
	case r.take("c"):
		return r.control()
	case r.take("x"):
		return r.hexNumber(2)
	case r.take("u{"):
		return r.bracedNumber()
	case r.take("u"):
		return r.unicodeNumber()
	}
	return 0, r.wrong()
}

// shortNumber tells the number of an escape that is one character behind the backslash.
func shortNumber(char rune) (rune, bool) {
	switch char {
	case 't':
		return '\t', true
	case 'n':
		return '\n', true
	case 'v':
		return '\v', true
	case 'f':
		return '\f', true
	case 'r':
		return '\r', true
	}
	return char, strings.ContainsRune(`^$\.*+?()[]{}|/`, char)
}

func (r *reader) zero() (rune, error) {
	if isDigit(r.peek()) {
		return 0, r.wrong()
	}
	return 0, nil
}

func (r *reader) control() (rune, error) {
	char := r.peek()
	if (char < 'a' || char > 'z') && (char < 'A' || char > 'Z') {
		return 0, r.wrong()
	}
	r.next++
	return char & 0x1F, nil
}

// hexNumber reads a number of just so many digits.
func (r *reader) hexNumber(digits int) (rune, error) {
	number := rune(0)
	for range digits {
		value, ok := hexValue(r.peek())
		if !ok {
			return 0, r.wrong()
		}
		number = number<<4 | value
		r.next++
	}
	return number, nil
}

// maxChar is the greatest number that a character has.
const maxChar = 0x10FFFF

// bracedNumber reads digits and the } behind them.
func (r *reader) bracedNumber() (rune, error) {
	number, digits := rune(0), 0
	for digits == 0 || !r.take("}") {
		value, ok := hexValue(r.peek())
		if !ok || number<<4|value > maxChar {
			return 0, r.wrong()
		}
		number = number<<4 | value
		digits++
		r.next++
	}
	return number, nil
}

// unicodeNumber reads four digits, and, where they are the first half of a pair,
// the escape of the second half.
func (r *reader) unicodeNumber() (rune, error) {
	number, err := r.hexNumber(4)
	if err != nil || number < 0xD800 || number > 0xDBFF {
		return number, err
	}
	if low, ok := r.secondHalf(); ok {
		return 0x10000 + (number-0xD800)*0x400 + (low - 0xDC00), nil
	}
	return number, nil
}

// secondHalf takes nothing where none stands: what does stand there, right or
// wrong, is then read as a thing of its own.
func (r *reader) secondHalf() (rune, bool) {
	begin := r.next
	if r.take(`\u`) {
		number, err := r.hexNumber(4)
		if err == nil && number >= 0xDC00 && number <= 0xDFFF {
			return number, true
		}
	}
	r.next = begin
	return 0, false
}

func hexValue(char rune) (rune, bool) {
	switch {
	case isDigit(char):
		return char - '0', true
	case char >= 'a' && char <= 'f':
		return char - 'a' + 10, true
	case char >= 'A' && char <= 'F':
		return char - 'A' + 10, true
	}
	return 0, false
}
