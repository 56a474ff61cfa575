package chars

// machine reads the bytes of a text, one character at a time.
type machine struct {
	text string
	next int
	at   int
	char rune
}

// read moves on to the next character, and tells whether there is one. Each
// label is one kind of byte that may come next.
func (m *machine) read() bool {
	m.at = m.next
	if m.next == len(m.text) {
		return false
	}
	switch lead := m.lead(); {
	case lead < 0x80:
		return true
	case lead < 0xC2: // a tail's, or of a character that needs but one byte
		return false
	case lead < 0xE0:
		goto oneMore
	case lead == 0xE0:
		goto behindE0
	case lead == 0xED:
		goto behindED
	case lead < 0xF0:
		goto twoMore
	case lead == 0xF0:
		goto behindF0
	case lead < 0xF4:
		goto threeMore
	case lead == 0xF4:
		goto behindF4
	}
	return false

behindF0: // lower tails make characters that need but three bytes
	if m.tail(0x90, 0xBF) {
		goto twoMore
	}
	return false
behindF4: // higher tails make numbers above 0x10FFFF
	if m.tail(0x80, 0x8F) {
		goto twoMore
	}
	return false
threeMore:
	if m.tail(0x80, 0xBF) {
		goto twoMore
	}
	return false
behindE0: // lower tails make characters that need but two bytes
	if m.tail(0xA0, 0xBF) {
		goto oneMore
	}
	return false
behindED: // higher tails make 0xD800 to 0xDFFF
	if m.tail(0x80, 0x9F) {
		goto oneMore
	}
	return false
twoMore:
	if m.tail(0x80, 0xBF) {
		goto oneMore
	}
	return false
oneMore:
	return m.tail(0x80, 0xBF)
}

// lead takes a character's first byte, and begins the character with its bits.
func (m *machine) lead() byte {
	lead := m.text[m.next]
	m.next++
	switch {
	case lead < 0x80:
		m.char = rune(lead)
	case lead < 0xE0:
		m.char = rune(lead & 0x1F)
	case lead < 0xF0:
		m.char = rune(lead & 0x0F)
	default:
		m.char = rune(lead & 0x07)
	}
	return lead
}

// tail takes a further byte of a character, if one from low to high is next.
func (m *machine) tail(low, high byte) bool {
	if m.next == len(m.text) {
		return false
	}
	b := m.text[m.next]
	if b < low || b > high {
		return false
	}
	m.next++
	m.char = m.char<<6 | rune(b&0x3F)
	return true
}
