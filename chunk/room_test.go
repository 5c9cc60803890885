package chunk

import (
	"testing"

	"calamus/api"
)

// The chapter's section 'Ways': the room is used from its front on again, so that it holds what is needed, not all that was ever fed.
func TestRoomIsUsedAgain(t *testing.T) {
	for _, c := range []struct{ in, left int }{{1, 0}, {1, 100}, {16, 0}, {100, 0}, {100, 300}, {1000, 1}} {
		s, _ := New(api.MaxBytes)
		s.Feed(make([]byte, c.left))
		greatest := 0
		for s.Feed(make([]byte, c.in)) == api.OK {
			greatest = max(greatest, cap(s.room))
			s.Take(c.in)
		}
		needed := api.MaxBack + c.left + c.in
		if greatest > 4*needed {
			t.Errorf("Ways: parts of %d, %d left: a room of %d bytes for %d", c.in, c.left, greatest, needed)
		}
	}
}

// What nobody can ask for any more is not kept beside little that is needed.
func TestRoomAfterMuch(t *testing.T) {
	s, _ := New(api.MaxBytes)
	s.Feed(make([]byte, 60000))
	s.Take(60000)
	s.Back(3)
	s.Feed([]byte{1})
	if len(s.room) != api.MaxBack+1 {
		t.Errorf("Ways: %d bytes are held, want %d", len(s.room), api.MaxBack+1)
	}
}

// Many small parts do not move the same bytes over and over: a byte is moved no more than once for one that is freed.
func TestRoomMovesLittle(t *testing.T) {
	s, _ := New(api.MaxBytes)
	s.Feed(make([]byte, 30000))
	moved := 0
	for range 30000 {
		ahead := s.gone
		s.Take(1)
		s.Feed([]byte{1})
		if s.gone != ahead {
			moved += len(s.room)
		}
	}
	if moved > 65536 {
		t.Errorf("Ways: %d bytes were moved", moved)
	}
}
