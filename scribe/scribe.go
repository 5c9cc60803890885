// Package scribe is what the writers of documents share: a value is checked, and laid out no further than a document may be long, since one within the limits may have a document many times as long.
package scribe

import (
	"calamus/api"
	"calamus/value"
)

// Scribe is a document, as far as it is laid out.
type Scribe struct {
	out []byte
}

// Write answers v's document, as lay lays it out: value.Check's error; api.ErrLimit, if it has more bytes than it may.
func Write(v api.Value, lay func(s *Scribe, v api.Value)) (b []byte, e api.Errno) {
	if e := value.Check(v); e != api.OK {
		return nil, e
	}
	defer func() {
		if gave, ok := recover().(api.Errno); ok {
			b, e = nil, gave
		}
	}()
	var s Scribe
	lay(&s, v)
	return s.out, api.OK
}

// Put writes bytes as they are, and gives up where they are too many. To be called by lay alone.
func (s *Scribe) Put(text string) {
	if len(text) > api.MaxBytes-len(s.out) {
		panic(api.ErrLimit)
	}
	s.out = append(s.out, text...)
}

// Fixed writes n as so many bytes, at most eight, the highest first. To be called by lay alone.
func (s *Scribe) Fixed(n uint64, width int) {
	var b [8]byte
	for i := range b {
		b[i] = byte(n >> (56 - 8*i))
	}
	s.Put(string(b[len(b)-width:]))
}

// Part has lay lay out a part by itself, and answers its bytes: for formats that tell ahead of a part how long it is. To be called by Write's lay, or within a part, alone.
func Part(lay func(s *Scribe)) string {
	var s Scribe
	lay(&s)
	return string(s.out)
}
