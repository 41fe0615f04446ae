package space

import "replevin/api"

// Fork returns a space with the same pages, which are shared until one of both stores to them.
func (s *Space) Fork() *Space {
	if s == nil {
		return nil
	}
	fork := New(nil)
	for page, p := range s.needAll() {
		if p.held != nil {
			p.own = false
			fork.known[page] = &slot{held: p.held, changed: true}
		}
	}
	return fork
}

// Shared returns the number of pages that two spaces share, and Equal reports whether they have the same pages with the same bytes.
func Shared(a, b *Space) int {
	if a == nil || b == nil {
		return 0
	}
	count := 0
	for page, p := range a.known {
		if q, is := b.known[page]; is && p.held != nil && p.held == q.held {
			count++
		}
	}
	return count
}

func (s *Space) Equal(o *Space) bool {
	if s == nil || o == nil {
		return s == o
	}
	mine, others := s.needAll(), o.needAll()
	for page := range api.MaxPages {
		if !equal(mine[page].held, others[page].held) {
			return false
		}
	}
	return true
}

func equal(a, b *content) bool {
	if a == nil || b == nil {
		return a == b
	}
	return *a == *b
}
