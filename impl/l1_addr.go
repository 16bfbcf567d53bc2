// Package impl: who calls at houses, and asks at each what may be looked at.
package impl

import (
	"slices"
	"strings"
)

// Limits of addresses.
const (
	AddrMax   = 60
	AddrHouse = 5
	AddrParts = 5
)

// Strings of signs, gone by rune by rune; all are of one byte, so that a place is a value.
const (
	plainSigns = "abcdefghijklmnopqrstuvwxyz0123456789.-"
	hexFigures = "0123456789ABCDEF"
)

// Addr is a house, parts of the way, and what is asked, if anything.
type Addr struct {
	House string
	Parts []string
	Asks  bool
	Ask   string
}

// EscNorm writes a text with signs for bytes in just one way.
func EscNorm(s string) (string, bool) {
	if len(s) > AddrMax {
		return "", false
	}
	var out []byte
	for at := 0; at < len(s); {
		b, size := meantByte(s, at)
		if size == 0 {
			return "", false
		}
		out = appendMeant(out, b)
		at += size
	}
	return string(out), true
}

// meantByte is the byte that is meant at a place, and how many bytes mean it: none, if a % begins no sign.
func meantByte(s string, at int) (byte, int) {
	if s[at] != '%' {
		return s[at], 1
	}
	if len(s)-at < 3 {
		return 0, 0
	}
	high, low := hexValue(s[at+1]), hexValue(s[at+2])
	if high < 0 || low < 0 {
		return 0, 0
	}
	return byte(high*16 + low), 3
}

// appendMeant writes a byte in the only way that it is to be written.
func appendMeant(out []byte, b byte) []byte {
	if signPlace(plainSigns, b) >= 0 {
		return append(out, b)
	}
	return append(out, '%', hexFigures[b/16], hexFigures[b%16])
}

// hexValue is what a figure of sixteen is worth, great or small; -1, if it is none.
func hexValue(b byte) int {
	if b >= 'a' && b <= 'f' {
		b -= 'a' - 'A'
	}
	return signPlace(hexFigures, b)
}

// signPlace is where a byte stands among signs; -1, if it does not.
func signPlace(signs string, b byte) int {
	for place, sign := range signs {
		if sign == rune(b) {
			return place
		}
	}
	return -1
}

// PathClean is parts of a way without those that lead nowhere, and steps up.
func PathClean(parts []string) []string {
	var kept []string
walk:
	for _, part := range parts {
		switch part {
		case "", ".":
			continue walk
		case "..":
			// At the door there is nothing above: one stays there.
			if len(kept) > 0 {
				kept = kept[:len(kept)-1]
			}
			continue walk
		}
		kept = append(kept, part)
	}
	return kept
}

// AddrOk says whether an address is ok.
func AddrOk(a Addr) bool {
	if !smallLetters(a.House, AddrHouse) || len(a.Parts) > AddrParts {
		return false
	}
	for _, part := range a.Parts {
		if !partOk(part) {
			return false
		}
	}
	if !a.Asks && a.Ask != "" {
		return false
	}
	return isNormal(a.Ask) && len(writeAddr(a)) <= AddrMax
}

// smallLetters says whether a text is of small letters alone: one at least, and not too many.
func smallLetters(s string, most int) bool {
	if len(s) < 1 || len(s) > most {
		return false
	}
	for i := 0; i < len(s); i++ {
		if s[i] < 'a' || s[i] > 'z' {
			return false
		}
	}
	return true
}

// partOk says whether a text may stand as a part of an ok address.
func partOk(part string) bool {
	return part != "" && part != "." && part != ".." && isNormal(part)
}

// isNormal says whether a text is as EscNorm writes it.
func isNormal(s string) bool {
	normal, ok := EscNorm(s)
	return ok && normal == s
}

// AddrText writes an address.
func AddrText(a Addr) string {
	if !AddrOk(a) {
		return ""
	}
	return writeAddr(a)
}

// AddrPath writes an address's way.
func AddrPath(a Addr) string {
	if !AddrOk(a) {
		return ""
	}
	return writePath(a)
}

// writeAddr writes an address unasked: whether it is ok hangs on how long its text is.
func writeAddr(a Addr) string {
	return "//" + a.House + writePath(a)
}

// writePath writes a way unasked, for the same reason.
func writePath(a Addr) string {
	path := "/" + strings.Join(a.Parts, "/")
	if a.Asks {
		path += "?" + a.Ask
	}
	return path
}

// AddrRead reads an address, in whichever way it is written.
func AddrRead(raw string) (Addr, bool) {
	if len(raw) > AddrMax {
		return Addr{}, false
	}
	return readWhole(aheadOfCross(raw))
}

// AddrJoin is where one comes from an address by what is written there.
func AddrJoin(base Addr, ref string) (Addr, bool) {
	if !AddrOk(base) || len(ref) > AddrMax {
		return Addr{}, false
	}
	ref = aheadOfCross(ref)
	switch {
	case strings.HasPrefix(ref, "//"):
		return readWhole(ref)
	case ref == "":
		base.Parts = slices.Clone(base.Parts)
		return base, true
	case ref[0] == '/':
		return readWay(base.House, nil, ref)
	case ref[0] == '?':
		return readWay(base.House, base.Parts, ref)
	}
	return readWay(base.House, allButLast(base.Parts), ref)
}

// aheadOfCross leaves out the first # of a text, and all behind it.
func aheadOfCross(text string) string {
	ahead, _, _ := strings.Cut(text, "#")
	return ahead
}

// allButLast is parts without the last one; of none there is none to take.
func allButLast(parts []string) []string {
	if len(parts) == 0 {
		return nil
	}
	return parts[:len(parts)-1]
}

// readWhole reads a whole address, which names its house.
func readWhole(text string) (Addr, bool) {
	rest, whole := strings.CutPrefix(text, "//")
	if !whole {
		return Addr{}, false
	}
	end := strings.IndexAny(rest, "/?")
	if end < 0 {
		end = len(rest)
	}
	return readWay(lowerLetters(rest[:end]), nil, rest[end:])
}

// lowerLetters goes byte by byte: letters beyond these, that have such small ones, are none of a house.
func lowerLetters(s string) string {
	out := []byte(s)
	for i, b := range out {
		if b >= 'A' && b <= 'Z' {
			out[i] = b + ('a' - 'A')
		}
	}
	return string(out)
}

// readWay reads a way of a house, behind the parts from where one goes.
func readWay(house string, from []string, way string) (Addr, bool) {
	ahead, asked, asks := strings.Cut(way, "?")
	ask, ok := EscNorm(asked)
	if !ok {
		return Addr{}, false
	}
	parts := slices.Clone(from)
	for _, raw := range strings.Split(ahead, "/") {
		// Signs may mean dots, so that steps are known only behind this.
		part, ok := EscNorm(raw)
		if !ok {
			return Addr{}, false
		}
		parts = append(parts, part)
	}
	a := Addr{House: house, Parts: PathClean(parts), Asks: asks, Ask: ask}
	if !AddrOk(a) {
		return Addr{}, false
	}
	return a, true
}
