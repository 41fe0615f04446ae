package state

import (
	"replevin/api"
	"replevin/codec"
	"replevin/object"
	"replevin/sha256"
)

// Encode returns the encoding of a state, and Decode the state with an encoding.
func (s *State) Encode() []byte {
	if s == nil {
		return nil
	}
	w := codec.NewWriter()
	w.Number(s.Len())
	for x := range s.root.items(anywhere) {
		// The names and values of a state have passed the checks of With or Decode, so there are no errors.
		name, _ := x.name.Encode()
		w.Text(name)
		w.Text(x.value)
	}
	b, _ := w.Bytes()
	return b
}

func Decode(b []byte) (*State, api.Errno) {
	r := codec.NewReader(b)
	var l []item
	for range r.Number(MaxObjects) {
		x, e := readItem(r, l)
		if e != api.OK {
			return nil, e
		}
		l = append(l, x)
	}
	if e := r.Close(); e != api.OK {
		return nil, e
	}
	return &State{build(l)}, api.OK
}

// Digest returns the SHA-256 digest of the encoding.
func (s *State) Digest() [32]byte {
	if s == nil {
		return [32]byte{}
	}
	return sha256.Sum(string(s.Encode()))
}

// readItem reads the item that follows the items before.
func readItem(r *codec.Reader, before []item) (item, api.Errno) {
	encoding := r.Text(MaxObjects)
	if _, e := r.Failed(); e != api.OK {
		return item{}, e
	}
	name, e := object.Decode(encoding)
	if e != api.OK {
		return item{}, e
	}
	if count := len(before); count > 0 && object.Compare(name, before[count-1].name) <= 0 {
		return item{}, api.ErrSequence
	}
	value := r.Text(api.MaxValue)
	_, e = r.Failed()
	return item{name, value}, e
}
