package pack

// none is a place that is too far from all others for a match.
const none = -Window - 1

// start is what two places must have in common for a match.
type start [MinMatch]byte

// finder finds matches in a text, at the places of the window that it has learnt.
type finder struct {
	text   []byte
	last   map[start]int // the last place with four bytes
	before [Window]int   // the place with the same four bytes before a place of the window, under the remainder of the place
}

// newFinder returns a finder that has learnt the places of a dictionary.
func newFinder(dict, b []byte) *finder {
	text := make([]byte, 0, len(dict)+len(b))
	text = append(append(text, dict...), b...)
	f := &finder{text: text, last: map[start]int{}}
	f.learn(0, len(dict))
	return f
}

// learn adds the places from one to another. Those that leave the window give theirs up, so the map stays small.
func (f *finder) learn(from, to int) {
	for at := from; at < min(to, len(f.text)-MinMatch+1); at++ {
		if at >= Window && f.latest(at-Window) == at-Window {
			delete(f.last, f.startAt(at-Window))
		}
		f.before[at%Window] = f.latest(at)
		f.last[f.startAt(at)] = at
	}
}

// latest returns the last place that was learnt and has the four bytes of a place.
func (f *finder) latest(at int) int {
	if place, is := f.last[f.startAt(at)]; is {
		return place
	}
	return none
}

func (f *finder) startAt(at int) start { return start(f.text[at : at+MinMatch]) }

// longest returns the longest match at a place, with the smallest distance, or zeros. The places before it must have been learnt.
func (f *finder) longest(at int) (distance, length int) {
	most := min(MaxMatch, len(f.text)-at)
	if most < MinMatch {
		return 0, 0
	}
	for place := f.latest(at); length < most && at-place <= Window; place = f.before[place%Window] {
		// A match that differs where the best one has ended is not longer.
		if f.text[place+length] != f.text[at+length] {
			continue
		}
		if n := f.common(place, at, most); n > length {
			distance, length = at-place, n
		}
	}
	return distance, length
}

// common returns how many bytes from two places on are equal.
func (f *finder) common(place, at, most int) int {
	for n := range most {
		if f.text[place+n] != f.text[at+n] {
			return n
		}
	}
	return most
}
