package cbor

import (
	"calamus/api"
	"calamus/num"
)

// A number is below ten to the power of its 40 digits and 400 noughts, and so below 2 to the power of 8 times mostBytes.
const mostBytes = 183

// mostPower is beyond any power of ten that makes a number, but 0, of a whole one.
const mostPower = 2*api.MaxExp + 1

// natural is a whole number from 0 on: its bytes, the highest first, without noughts in front.
type natural struct {
	bytes [mostBytes]byte
	count int
}

// naturalOf makes a natural of a head's number.
func naturalOf(n uint64) natural {
	var made natural
	for shift := 56; shift >= 0; shift -= 8 {
		made.put(byte(n >> shift))
	}
	return made
}

// put lays a byte behind the others, and tells whether there was room for it.
func (n *natural) put(c byte) bool {
	if c == 0 && n.count == 0 {
		return true
	}
	if n.count == mostBytes {
		return false
	}
	n.bytes[n.count] = c
	n.count++
	return true
}

// number is n, or -1 less n: api.ErrLimit, if that is none, or n is none.
func (n *natural) number(below bool) (api.Num, api.Errno) {
	made, e := num.Of(below, n.bytes[:n.count])
	if e != api.OK || !below {
		return made, e
	}
	return num.Add(made, api.Num{Neg: true, Digits: "1"})
}

// powerOf is a decimal's power of ten; of those that are too great any one will do.
func powerOf(n uint64, below bool) int {
	power := int(min(n, mostPower))
	if below {
		return -1 - power
	}
	return power
}

// shifted is a whole number times ten to that power: api.ErrLimit, if that is none.
func shifted(n api.Num, power int) (api.Num, api.Errno) {
	if n.Digits == "0" {
		return n, api.OK
	}
	n.Exp += power
	if num.Check(n) != api.OK {
		return api.Num{}, api.ErrLimit
	}
	return n, api.OK
}
