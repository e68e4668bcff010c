// Package alu: numbers of 32 bits: see DOC.md, chapter 1.
package alu

import "tincture/api"

// The kinds of Do, in the document's order.
const (
	add = iota
	sub
	sll
	slt
	sltu
	xor
	srl
	sra
	or
	and
	mul
	mulh
	mulhsu
	mulhu
	div
	divu
	rem
	remu
)

// The kinds of Test: 2 and 3 are none, as in a branch's funct3.
const (
	alike    = 0
	unlike   = 1
	below    = 4
	notBelow = 5
	under    = 6
	notUnder = 7
)

const allOnes = 1<<32 - 1

// Do reckons.
func Do(kind int, a, b uint32) (uint32, api.Errno) {
	switch kind {
	case add:
		return a + b, api.OK
	case sub:
		return a - b, api.OK
	case sll:
		return a << places(b), api.OK
	case slt:
		return number(int32(a) < int32(b)), api.OK
	case sltu:
		return number(a < b), api.OK
	case xor:
		return a ^ b, api.OK
	case srl:
		return a >> places(b), api.OK
	case sra:
		return uint32(int32(a) >> places(b)), api.OK
	case or:
		return a | b, api.OK
	case and:
		return a & b, api.OK
	case mul:
		return a * b, api.OK
	case mulh:
		return highSigned(signed(a) * signed(b)), api.OK
	case mulhsu:
		return highSigned(signed(a) * int64(b)), api.OK
	case mulhu:
		return uint32(uint64(a) * uint64(b) >> 32), api.OK
	case div:
		return quotientSigned(a, b), api.OK
	case divu:
		return quotient(a, b), api.OK
	case rem:
		return remainderSigned(a, b), api.OK
	case remu:
		return remainder(a, b), api.OK
	}
	return 0, api.EARG
}

// Test compares.
func Test(kind int, a, b uint32) (bool, api.Errno) {
	switch kind {
	case alike:
		return a == b, api.OK
	case unlike:
		return a != b, api.OK
	case below:
		return int32(a) < int32(b), api.OK
	case notBelow:
		return int32(a) >= int32(b), api.OK
	case under:
		return a < b, api.OK
	case notUnder:
		return a >= b, api.OK
	}
	return false, api.EARG
}

// Extend spreads a sign.
func Extend(v uint32, bits int) uint32 {
	switch bits {
	case 8:
		return uint32(int32(int8(v)))
	case 16:
		return uint32(int32(int16(v)))
	}
	return v
}

// places tells how far a shift goes. Go would shift by all of b.
func places(b uint32) uint32 { return b & 31 }

func number(is bool) uint32 {
	if is {
		return 1
	}
	return 0
}

// signed widens, so that neither a product nor -2^31 by -1 overflows.
func signed(v uint32) int64 { return int64(int32(v)) }

func highSigned(product int64) uint32 { return uint32(product >> 32) }

func quotientSigned(a, b uint32) uint32 {
	if b == 0 {
		return allOnes
	}
	return uint32(signed(a) / signed(b))
}

func quotient(a, b uint32) uint32 {
	if b == 0 {
		return allOnes
	}
	return a / b
}

func remainderSigned(a, b uint32) uint32 {
	if b == 0 {
		return a
	}
	return uint32(signed(a) % signed(b))
}

func remainder(a, b uint32) uint32 {
	if b == 0 {
		return a
	}
	return a % b
}
