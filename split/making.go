package split

// making is the bytes of a field that is being made.
type making struct {
	text   []byte
	quoted []bool
}

// add puts bytes behind those that are there.
func (m *making) add(text string, quoted bool) {
	m.text = append(m.text, text...)
	for range len(text) {
		m.quoted = append(m.quoted, quoted)
	}
}

// field is the field of these bytes. It has the bools themselves, so nothing may be added behind it.
func (m *making) field() Field { return Field{Text: string(m.text), Quoted: m.quoted} }

// What a byte of a Split piece is.
const (
	other = iota
	soft
	hard
)

// kindsOf says of each byte what it is, given ifs.
func kindsOf(ifs string) [256]int {
	var kinds [256]int
	for i := range len(ifs) {
		switch c := ifs[i]; c {
		case ' ', '\t', '\n':
			kinds[c] = soft
		default:
			kinds[c] = hard
		}
	}
	return kinds
}
