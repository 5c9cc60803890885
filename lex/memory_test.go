package lex_test

import (
	"math/rand"
	"slices"
	"testing"

	"calamus/api"
	"calamus/lex"
)

// R2: tokens that are handed in are not written into, nor their spare room, which does not count.
func TestHandedIn(t *testing.T) {
	r := rand.New(rand.NewSource(137))
	for range 3000 {
		var l []api.Token
		for range r.Intn(6) {
			l = append(l, at(r.Intn(99), someToken(r)))
		}
		if r.Intn(3) == 0 {
			l = append(l, nameToken("1"), nameToken("a"))
		}
		room := append(slices.Clone(l), nameToken("$"), nameToken("spare"))
		was := slices.Clone(room)
		s, e := lex.Print(room[:len(l)])
		want, wantError := reckonPrint(l)
		if s != want || e != wantError {
			t.Errorf("R2: spare room counts: %s, %d", short(s), e)
		}
		if !slices.Equal(room, was) {
			t.Errorf("R2: %v is changed", was)
		}
	}
}

// R2: the tokens of an answer are new memory, and the same again and again.
func TestAnswersAreNew(t *testing.T) {
	for _, s := range []string{"a", `.a ; tag "x\u0041"`, "1 2 3 4 5 6 7 8 9", "{x=[id],y=const null}# z"} {
		want, _, _ := reckonScan(s)
		for range 50 {
			one, _, _ := lex.Scan(s)
			two, _, _ := lex.Scan(s)
			spare := one[:cap(one)]
			for i := range spare {
				spare[i] = api.Token{Word: 99, Text: "spoilt", At: -1}
			}
			if !slices.Equal(two, want) {
				t.Errorf("R2: two answers of Scan(%s) share memory", s)
			}
			first, _ := lex.Print(two)
			if second, e := lex.Print(want); first != second || e != api.OK {
				t.Errorf("R2: Print = %s, then %s, %d", first, second, e)
			}
		}
	}
}

// R1: beside an error all else is zero.
func TestZeroBesideErrors(t *testing.T) {
	for _, s := range []string{"a b c $", `a "`, "1 01"} {
		if l, e, _ := lex.Scan(s); l != nil || e != api.ErrLexForm {
			t.Errorf("R1: Scan(%s) = %v, %d", s, l, e)
		}
	}
}
