// Package octet is layer 1: bytes as texts of digits and signs (shared/doc/01-octet.md).
package octet

import (
	"strings"

	"signet/api"
)

const (
	hexSigns   = "0123456789abcdef"
	common     = "ABCDEFGHIJKLMNOPQRSTUVWXYZabcdefghijklmnopqrstuvwxyz0123456789"
	webSigns   = common + "-_"
	basicSigns = common + "+/"
	fillSign   = "="
)

// How many bits a sign tells, and in how many signs a row of basic signs comes.
const (
	hexBits = 4
	webBits = 6
	row     = 4
)

// Hex answers b by sixteen, two signs a byte.
func Hex(b []byte) string { return spell(b, hexSigns, hexBits) }

// Unhex answers the bytes of which Hex is s.
func Unhex(s string) ([]byte, api.Errno) { return unspell(s, hexSigns, hexBits) }

// Web answers b by sixty-four, in signs that an address may hold.
func Web(b []byte) string { return spell(b, webSigns, webBits) }

// Unweb answers the bytes of which Web is s.
func Unweb(s string) ([]byte, api.Errno) { return unspell(s, webSigns, webBits) }

// Basic answers b by sixty-four, filled up to whole rows.
func Basic(b []byte) string {
	s := spell(b, basicSigns, webBits)
	return s + strings.Repeat(fillSign, lacking(len(s)))
}

// Unbasic answers the bytes of which Basic is s.
func Unbasic(s string) ([]byte, api.Errno) {
	body := strings.TrimRight(s, fillSign)
	if len(s)-len(body) != lacking(len(body)) {
		return nil, api.ErrForm
	}
	return unspell(body, basicSigns, webBits)
}

// Same tells whether a and b are the same bytes. It looks at all of them, since what is compared may be secret: how long it takes must not tell where they differ.
func Same(a, b []byte) bool {
	if len(a) != len(b) {
		return false
	}
	var differ byte
	for i, c := range a {
		differ |= c ^ b[i]
	}
	return differ == 0
}

// lacking answers how many signs are wanting to n signs for whole rows.
func lacking(n int) int { return (row - n%row) % row }

// spell answers the bits of b, each width of them one of the signs, with bits 0 behind the last ones.
func spell(b []byte, signs string, width int) string {
	var out strings.Builder
	out.Grow((len(b)*8 + width - 1) / width)
	left, bits := 0, 0
carry:
	for _, c := range b {
		left, bits = left<<8|int(c), bits+8
		for {
			if bits < width {
				continue carry
			}
			bits -= width
			worth := left >> bits
			out.WriteString(signs[worth : worth+1])
			left &= 1<<bits - 1
		}
	}
	if bits > 0 {
		worth := left << (width - bits)
		out.WriteString(signs[worth : worth+1])
	}
	return out.String()
}

// unspell answers the bytes that spell tells as s.
func unspell(s, signs string, width int) ([]byte, api.Errno) {
	out := make([]byte, 0, len(s)*width/8)
	left, bits, next := 0, 0, 0
carry:
	for {
		for bits < 8 {
			if next == len(s) {
				break carry
			}
			worth := strings.IndexByte(signs, s[next])
			if worth < 0 {
				return nil, api.ErrForm
			}
			left, bits = left<<width|worth, bits+width
			next++
		}
		bits -= 8
		out = append(out, byte(left>>bits))
		left &= 1<<bits - 1
	}
	// A whole sign too many, or a bit 1 among those that only fill up: spell tells no bytes so.
	if bits >= width || left != 0 {
		return nil, api.ErrForm
	}
	return out, api.OK
}
