package space

import "replevin/api"

// wordSize is the number of bytes of a word.
const wordSize = 4

// Load returns bytes, and Store changes bytes.
func (s *Space) Load(at, n int) (string, api.Errno) {
	if e := s.access(at, n); e != api.OK {
		return "", e
	}
	b := make([]byte, n)
	s.read(at, b)
	return string(b), api.OK
}

func (s *Space) Store(at int, bytes string) api.Errno {
	if e := s.access(at, len(bytes)); e != api.OK {
		return e
	}
	for bytes != "" {
		length := copy(s.writable(at / api.PageSize)[at%api.PageSize:], bytes)
		at, bytes = at+length, bytes[length:]
	}
	return api.OK
}

// Word returns the number in four bytes, the least significant one first, and SetWord changes it.
func (s *Space) Word(at int) (uint32, api.Errno) {
	if e := s.access(at, wordSize); e != api.OK {
		return 0, e
	}
	var b [wordSize]byte
	s.read(at, b[:])
	return uint32(b[0]) | uint32(b[1])<<8 | uint32(b[2])<<16 | uint32(b[3])<<24, api.OK
}

func (s *Space) SetWord(at int, w uint32) api.Errno {
	b := [wordSize]byte{byte(w), byte(w >> 8), byte(w >> 16), byte(w >> 24)}
	return s.Store(at, string(b[:]))
}

// Text returns the bytes from an address up to, but not including, the first byte 0.
func (s *Space) Text(at, most int) (string, api.Errno) {
	switch {
	case s == nil:
		return "", api.ErrArgument
	case most < 0:
		return "", api.ErrRange
	}
	var text []byte
	why := api.ErrLong
addresses:
	for address := at; address-at <= most; address++ {
		b, is := s.byteAt(address)
		switch {
		case !is:
			why = api.ErrFault
			break addresses
		case b == 0:
			why = api.OK
			break addresses
		}
		text = append(text, b)
	}
	if why != api.OK {
		return "", why
	}
	return string(text), api.OK
}

// access returns the error of a Load. It needs the pages of the addresses, if these exist, up to the first page that is not there.
func (s *Space) access(at, n int) api.Errno {
	switch {
	case s == nil:
		return api.ErrArgument
	case n < 0:
		return api.ErrRange
	case n == 0:
		return api.OK
	case !isAddress(at) || n > Size-at:
		return api.ErrFault
	}
	last := at + n - 1
	for page := at / api.PageSize; page <= last/api.PageSize; page++ {
		if s.need(page).held == nil {
			return api.ErrFault
		}
	}
	return api.OK
}

// read fills b with the bytes from an address on, whose pages are there.
func (s *Space) read(at int, b []byte) {
	for len(b) > 0 {
		length := copy(b, s.need(at / api.PageSize).held[at%api.PageSize:])
		at, b = at+length, b[length:]
	}
}

// byteAt returns the byte at an address, and false if this is not accessible.
func (s *Space) byteAt(at int) (byte, bool) {
	if !isAddress(at) {
		return 0, false
	}
	held := s.need(at / api.PageSize).held
	if held == nil {
		return 0, false
	}
	return held[at%api.PageSize], true
}

// writable returns the content of a page that is there, in order to change it: a copy if others may hold it.
func (s *Space) writable(page int) *content {
	p := s.need(page)
	if !p.own {
		replaced := *p.held
		p.held, p.own = &replaced, true
	}
	p.changed = true
	return p.held
}
