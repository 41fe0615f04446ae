package space

import "replevin/api"

// Map adds a page with some bytes, followed by bytes 0, and Unmap removes a page.
func (s *Space) Map(page int, bytes string) api.Errno {
	switch {
	case s == nil:
		return api.ErrArgument
	case !isPage(page):
		return api.ErrRange
	case len(bytes) > api.PageSize:
		return api.ErrLong
	}
	p := s.need(page)
	if p.held != nil {
		return api.ErrExists
	}
	p.hold(bytes)
	p.changed = true
	return api.OK
}

func (s *Space) Unmap(page int) api.Errno {
	p, e := s.needThere(page)
	if e != api.OK {
		return e
	}
	p.held, p.changed = nil, true
	return api.OK
}

// Has reports whether there is a page, Pages returns all pages in increasing order, and Page the bytes of a page.
func (s *Space) Has(page int) bool {
	_, e := s.needThere(page)
	return e == api.OK
}

func (s *Space) Pages() []int {
	if s == nil {
		return nil
	}
	var l []int
	for page, p := range s.needAll() {
		if p.held != nil {
			l = append(l, page)
		}
	}
	return l
}

func (s *Space) Page(page int) (string, api.Errno) {
	p, e := s.needThere(page)
	if e != api.OK {
		return "", e
	}
	return string(p.held[:]), api.OK
}

// Asked returns the pages that were asked of the source, and Changes the pages that were stored to, mapped or unmapped, in increasing order.
func (s *Space) Asked() []int {
	if s == nil {
		return nil
	}
	var l []int
	for page := range api.MaxPages {
		if p, is := s.known[page]; is && p.asked {
			l = append(l, page)
		}
	}
	return l
}

func (s *Space) Changes() []Change {
	if s == nil {
		return nil
	}
	var l []Change
	for page := range api.MaxPages {
		p, is := s.known[page]
		switch {
		case !is || !p.changed:
		case p.held == nil:
			l = append(l, Change{Page: page, Absent: true})
		default:
			l = append(l, Change{Page: page, Bytes: string(p.held[:])})
		}
	}
	return l
}
